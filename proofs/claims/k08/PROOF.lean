import PyProof.Rows.All
import HandS.MethStar
import HandS.SlotsOwn
import HandS.Star
import HandS.More
import HandS.IsInst
import KE.KCallOwn
import KE.KxField
import HandS.FStr
import PyProof.Rows.StrIntSpec
import PyProof.FString3
import PyProof.FactsAll.int_2
import KE.KxWritten
import HandS.Lambda
import HandS.Codes
import HandS.Words
import HandS.EndTab
import HandS.EndBits
import HandS.NestedK
import KE.KNestM
import PyProof.ReprRoads
import HandS.Evl
import HandS.ExcInit
import HandS.ExcIs
import HandS.ExcCtx
import HandS.SuiteRaise
import KE.KExcIs
import Wide.All
import OpenK.AllK
import Wide.FinOn
import HandS.ForMost
import HandS.Property
import HandS.ClsMeth
import HandS.Conv
import HandS.Wide
import HandS.WideBits
import HandS.Flow
import HandS.Zip
import HandS.Strs
import KE.GoesEnum
import HandS.WordsExc
import HandS.TupAny
import HandS.OwnEq
import HandS.Deep
import HandS.TupLen
import HandS.MakeKwOnly
import KE.KDictKeyed
import KE.KTupSum
import PyProof.SumAnyB
import PyProof.EnumMake
import PyProof.EqKinds
import HandS.NoneIn
import PyProof.ReprLen
import HandS.SetKeys
import PyProof.Rows.SetFrom
import PyProof.TupleIter
import HandS.Nested
import KE.KStar
import KE.KSuper
import PyProof.EqAt
import PyProof.NeKinds
import KE.KOpsOwn
import HandS.ExcOwn
import HandS.HotCalls
import HandS.RaiseFrom
import HandS.IterVal
import HandS.TryOnly
import HandS.Style

import PySem.Challenge.RW_modesdown_k08_changes_made_and_read

set_option Elab.async false
set_option linter.all false
set_option maxRecDepth 100000
set_option maxHeartbeats 4000000
namespace KD
open PySem PySem.Spec PyProof.Rows L2
section
open PySem.W PySem.Calls Builtin
variable {prog : Program} {w : World} {A : Around} {E : Value → Shared → Prop} {s : Shared} {K : Frag} {x C L f : Addr} {h₀ : Heap} {m : Str → Option Value} {ox : Obj} {od : Option Obj}
theorem bool_own {Q : Value → Shared → Prop} (F : Fr h₀ L s.heap m) (X₀ : K.In h₀) (I : InstAt s.heap x ox C od) (hs : findIn K (.ref C) "__bool__" = some (some (.ref f))) (hf : isFn K (.ref f) = true)
    (h : wpAny (model prog w) A.in1.in1 (call (.ref f) [.ref x]) (PySem.W.BoolBack fun b s' => Q (.bool b) s') E s) : wpAny (model prog w) A (call (.type "bool") [.ref x]) Q E s := by
  refine callType_codes (T := "bool") (Bi := Builtin.«object.__init__») (Q₁ := fun r s₁ => ∃ b, r = .bool b ∧ Q r s₁) PySem.F.called_bool (PySem.F.typeCall_bool_1 _) PySem.F.entry_object_init ?_ ?_
  · refine codeAny_of_tree ?_
    show wpAny _ A.in1.in1 (do checkBuiltinCall "bool.__new__" ⟨[.type "bool", .ref x], []⟩; again (.builtin "bool.__new__" ⟨[.type "bool", .ref x], []⟩)) _ _ s
    refine wpAny_bind (wpAny_of_eq (PySem.F.newCall_bool_1 _) (wpAny_pure ⟨plainId_quiet (by decide +kernel) _, codeAny_builtin PySem.F.entry_bool_new ?_⟩))
    rw [Around.under_plainId (by decide +kernel) _]
    unfold Builtin.«bool.__new__»
    refine wpAny_bind (m := isType _) (wpAny_pure ?_)
    refine wpAny_bind (wpAny_of_eq PySem.F.conv_sub_bool ?_)
    refine wpAny_bind (m := someArgs _ _ _ _) (wpAny_pure ?_)
    refine wpAny_bind (truthy_K F X₀ I hs hf (wpAny_mono h (fun r s₁ hr => ?_) fun _ _ y => y))
    cases r <;> first | exact hr.elim | exact wpAny_pure ⟨_, rfl, hr⟩
  · rintro obj s₁ ⟨b, rfl, hq⟩
    exact ⟨PySem.typeIs_bool _ _, PySem.F.args_object_init_2 _ _, object_init_meets PySem.F.called_bool.init.lookup PySem.F.called_bool.made (by decide) prog w A.in1 _ s₁ ⟨PySem.typeIs_bool _ _, rfl, hq⟩⟩
end
section
variable {X : Cx} {CX : CXT} {C g : Addr} {n : Nat} {sp : Sp} {E : XK}
/-- repr, len, bool of an own instance -/
def rReprOwn (C : Addr) (sp : Sp) (E : XK) : List V → Hp → VK → Prop := fun xs H Q => ∃ a dx fs, xs = [V.ref a] ∧ H a = some (.ins C dx fs) ∧ sp [.ref a] H (fun z H' => ∃ s, z = .str s ∧ Q z H') E
def rLenOwn (C : Addr) (sp : Sp) (E : XK) : List V → Hp → VK → Prop := fun xs H Q => ∃ a dx fs, xs = [V.ref a] ∧ H a = some (.ins C dx fs) ∧ sp [.ref a] H (fun z H' => ∃ n : Int, z = .int n ∧ 0 ≤ n ∧ n < 2 ^ 63 ∧ Q z H') E
def rBoolOwn (C : Addr) (sp : Sp) (E : XK) : List V → Hp → VK → Prop := fun xs H Q => ∃ a dx fs, xs = [V.ref a] ∧ H a = some (.ins C dx fs) ∧ sp [.ref a] H (fun z H' => ∃ b, z = .bl b ∧ Q z H') E
theorem call_reprOwn (hs : PySem.W.findIn X.K (.ref C) "__repr__" = some (some (.ref g))) (hf : PySem.W.isFn X.K (.ref g) = true) (F : FnR X.prog X.w X.K X.mg X.base CX n g sp) (hr : Room (n + 1) X.A) (hx : Passes CX X E) : CallR X (.builtin "repr") (rReprOwn C sp E) := by
  intro pins s σ H xs us Q I r start
  obtain ⟨a, dx, fs, rfl, hsl, q⟩ := start
  obtain ⟨u, rfl, ru⟩ := r.one
  obtain rfl : u = Value.ref a := ru
  obtain ⟨ox, od, J, _⟩ := StX.insC_at (X := X) I (.inr ⟨dx, fs, hsl⟩)
  have low : Room n X.A.in1 := Room.in1 hr
  obtain ⟨m, hF⟩ := I.fr
  refine PySem.W.repr_K low.units0 hF I.ok.mod.kin J hs hf (wpAny_mono (wpAny_call (SlX.run_at (us := [.ref a]) (ws := [.ref a]) F low I.env0.in1 hx I (.cons rfl .nil) q)) (fun w s' z => ?_) fun _ _ x => x)
  obtain ⟨z', H', I', rz, s2, ei, qz⟩ := z
  subst ei
  obtain ⟨t, e⟩ := (show ∃ t, w = Value.str s2 t from rz)
  cases e
  exact ⟨.str s2, H', I', ⟨t, rfl⟩, qz⟩
theorem call_lenOwn (hs : PySem.W.findIn X.K (.ref C) "__len__" = some (some (.ref g))) (hf : PySem.W.isFn X.K (.ref g) = true) (F : FnR X.prog X.w X.K X.mg X.base CX n g sp) (hr : Room (n + 1) X.A) (hx : Passes CX X E) : CallR X (.builtin "len") (rLenOwn C sp E) := by
  intro pins s σ H xs us Q I r start
  obtain ⟨a, dx, fs, rfl, hsl, q⟩ := start
  obtain ⟨u, rfl, ru⟩ := r.one
  obtain rfl : u = Value.ref a := ru
  obtain ⟨ox, od, J, _⟩ := StX.insC_at (X := X) I (.inr ⟨dx, fs, hsl⟩)
  have low : Room n X.A.in1 := Room.in1 hr
  obtain ⟨m, hF⟩ := I.fr
  refine PySem.W.len_K hF I.ok.mod.kin J hs hf (wpAny_mono (wpAny_call (SlX.run_at (us := [.ref a]) (ws := [.ref a]) F low I.env0.in1 hx I (.cons rfl .nil) q)) (fun w s' z => ?_) fun _ _ x => x)
  obtain ⟨z', H', I', rz, i, ei, h0, h1, qz⟩ := z
  subst ei
  obtain ⟨t, e⟩ := (show ∃ t, w = Value.int i t from rz)
  cases e
  exact ⟨⟨h0, h1⟩, .int i, H', I'.tok _, ⟨_, rfl⟩, qz⟩
theorem call_boolOwn (hs : PySem.W.findIn X.K (.ref C) "__bool__" = some (some (.ref g))) (hf : PySem.W.isFn X.K (.ref g) = true) (F : FnR X.prog X.w X.K X.mg X.base CX n g sp) (hr : Room (n + 2) X.A) (hx : Passes CX X E) : CallR X (.type "bool") (rBoolOwn C sp E) := by
  intro pins s σ H xs us Q I r start
  obtain ⟨a, dx, fs, rfl, hsl, q⟩ := start
  obtain ⟨u, rfl, ru⟩ := r.one
  obtain rfl : u = Value.ref a := ru
  obtain ⟨ox, od, J, _⟩ := StX.insC_at (X := X) I (.inr ⟨dx, fs, hsl⟩)
  have low : Room (n + 1) X.A.in1 := Room.in1 hr
  have hr2 : Room n X.A.in1.in1 := low.in1
  obtain ⟨m, hF⟩ := I.fr
  refine bool_own hF I.ok.mod.kin J hs hf (wpAny_mono (wpAny_call (SlX.run_at (us := [.ref a]) (ws := [.ref a]) F hr2 I.env0.in1.in1 hx I (.cons rfl .nil) q)) (fun w s' z => ?_) fun _ _ x => x)
  obtain ⟨z', H', I', rz, b, ei, qz⟩ := z
  subst ei
  obtain rfl : w = Value.bool b := rz
  exact ⟨.bl b, H', I', rfl, qz⟩
end
end KD
set_option Elab.async false
set_option linter.all false
set_option maxRecDepth 100000
set_option maxHeartbeats 4000000
namespace KD
open PySem PySem.Spec PyProof.Rows L2
section
open PySem.W Builtin Builtin.Str Builtin.Int Builtin.Float PySem.Calls
def spec8 : Str := "03o"
def f8 : FormatSpec := { fill := 48, align := 61, width := some 3, type := some 111 }
def octS (n : Nat) : Str := intField' f8 false [] ((Nat.toDigits 8 n).map fun c => (if (111 : Nat) == 88 then c.toUpper else c).toNat) [] 4
theorem f8_is : parseFormatSpec spec8.cps.toList "int" 62 = .ok f8 := by kernel_rfl
theorem f8_ty : f8.type = some 111 ∧ f8.precision.isSome = false ∧ f8.noNeg0 = false ∧ f8.alt = false ∧ (decide (f8.width.getD 0 > 100000)) = false := by decide +kernel
theorem s8_asc : ((spec8.cps.toList.drop 1).any (· ≥ 128) || (spec8.cps.getD 0 0 ≥ 128 && !([60, 62, 61, 94] : List Nat).contains (spec8.cps.getD 1 0))) = false := by decide +kernel
theorem s8_ne : (spec8.length == 0) = false := by decide +kernel
theorem oct_len : ∀ n : Nat, n < 512 → (octS n).length = 3 := by
  have h : ((List.range 512).all fun n => decide ((octS n).length = 3)) = true := by decide +kernel
  exact fun n hn => of_decide_eq_true (List.all_eq_true.mp h n (List.mem_range.mpr hn))
variable {prog : Program} {w : World} {A : Around} {E : Value → Shared → Prop} {s : Shared}
theorem field_oct {n : Nat} {t : Tok} {Q : Value → Shared → Prop} (hn : n < 512) (h : ∀ t' k, Q (.str (octS n) t') { s with toks := k }) : wpAny (model prog w) A (formatField (.int (n : Nat) t) spec8) Q E s := by
  obtain ⟨h1, h2, h3, h4, h5⟩ := f8_ty
  show wpAny _ _ (holding [.int (n : Nat) t] (pyFormat (.int (n : Nat) t) spec8)) Q E s
  refine wpAny_holding ?_
  unfold pyFormat
  refine wpAny_bind (wpAny_mkStr ?_ (by show 3 ≤ sizeLine; decide))
  refine wpAny_bind (m := callSpecial? (.int (n : Nat) t) (Str.ofString "__format__") [.str spec8 s.toks]) (wpAny_callSpecial?_slot (name := Str.ofString "__format__") (PySem.typeIs_int _ _ t) PySem.F.slot_int_format ?_)
  refine wpAny_call (codeAny_call_builtin PySem.F.slot_int_format.plain PySem.F.entry_int_format (PySem.F.slot_int_format.check _ _ _ _ _ _ _ _ (PySem.typeIs_int _ _ t) (PySem.F.args_int_format_2 _ _) ?_))
  unfold Builtin.«int.__format__»
  simp only [selfAndOne, noKeywords, Int.intOfSelf, asInt?, asStr?, List.isEmpty_nil, if_true, pure_bind, bind_pure, bind_assoc, s8_ne, s8_asc, Bool.false_eq_true, if_false,
    show (Value.str spec8 s.toks == Value.none) = false from rfl]
  refine wpAny_bind (wpAny_typeNameOf (T := "str") (PySem.typeIs_str _ _ _) (by decide) fun _ => ?_)
  refine wpAny_bind (wpAny_typeNameOfCut_int ?_)
  simp only [f8_is, h1, Option.getD_some]
  rw [if_pos (by decide)]
  obtain ⟨f, hf⟩ : ∃ f, f = f8 := ⟨_, rfl⟩
  rw [← hf] at h2 h3 h4 h5 ⊢
  show wpAny _ _ (if _ then _ else _) _ _ _
  rw [if_neg (by rw [h2]; decide)]
  show wpAny _ _ (if _ then _ else _) _ _ _
  rw [if_neg (by rw [h3]; decide)]
  show wpAny _ _ (if _ then _ else _) _ _ _
  rw [if_neg (by decide)]
  show wpAny _ _ (if _ then _ else _) _ _ _
  rw [if_neg (by decide)]
  show wpAny _ _ (if _ then _ else _) _ _ _
  rw [if_neg (of_decide_eq_false h5)]
  show wpAny _ _ (retStr _) _ _ _
  subst hf
  refine KXf.ret_text (T := octS n) ?_ ?_ fun t' k => ?_
  · rw [decide_eq_false (show ¬ (n : Int) < 0 by omega)]
    rfl
  · rw [decide_eq_false (show ¬ (n : Int) < 0 by omega)]
    exact Nat.le_trans (Nat.le_of_eq (oct_len n hn)) (by decide)
  · exact wpAny_bind (wpAny_isInstance (PySem.typeIs_str _ _ _) isSubtype_str_str (wpAny_pure (h _ _)))
end
section
variable {X : Cx}
def tOct (te : TE) : TE := fun σ H Q => te σ H fun x H1 => ∃ n : Nat, x = .int (n : Nat) ∧ n < 512 ∧ Q (.str (octS n)) H1
theorem pe_fmt8 {e : Expr} {te : TE} {pos p1 p2 : Pos} {k : Nat} (he : PE X e te) : PE X (.FormattedValue e (-1) (some (.JoinedStr [.Constant (.str "03o") k p1] p2)) pos) (tOct te) := by
  refine ⟨fun pins s σ H Q I h => ?_⟩
  refine wpAny_FormattedValue_spec (thn (he.run pins s σ H _ I h) fun v s1 ⟨x, H1, I1, r1, n, ex, hn, q⟩ => ?_)
  subst ex
  obtain ⟨t, rfl⟩ := r1
  have hs : PE X (.JoinedStr [.Constant (.str "03o") k p1] p2) (tC (.str "03o")) := pe_joined1 pe_str
  refine thn (hs.run pins s1 σ H1 (fun y H2 => y = .str "03o" ∧ H2 = H1) I1 ⟨rfl, rfl⟩) fun r s2 ⟨y, H2, I2, ry, ey, eH⟩ => ?_
  subst ey eH
  obtain ⟨t2, rfl⟩ := ry
  exact ⟨_, t2, rfl, field_oct hn fun t' k => ⟨.str (octS n), H2, I2.tok _, ⟨_, rfl⟩, q⟩⟩
/-- x op y, x an own instance -/
def rOwnB (K : PySem.W.Frag) (C : Addr) (sp : Sp) (E : XK) : R2 := fun x y H Q => ∃ (p dx : Addr) (fs : List (Str × V)) (t : Value), x = .ref p ∧ H p = some (.ins C dx fs) ∧ TyX K H y t ∧ PySem.W.notFirst K C t = true ∧ sp [x, y] H Q E
theorem op_ownB {CX : CXT} {C g : Addr} {n : Nat} {sp : Sp} {E : XK} {op : CmpOp} (hop : ∀ a b, compareOp op a b = richCompare op a b) (hs : PySem.W.findIn X.K (.ref C) (cmpInfo op).2.1 = some (some (.ref g))) (hf : PySem.W.isFn X.K (.ref g) = true)
    (F : FnR X.prog X.w X.K X.mg X.base CX n g sp) (room : Room n X.A) (hx : Passes CX X E) : OpR X (compareOp op) (rOwnB X.K C sp E) := by
  intro pins s σ H x y v u Q I rx ry told
  obtain ⟨p, dx, fs, t, rfl, hp, ty, nf, want⟩ := told
  obtain rfl : v = Value.ref p := rx
  obtain ⟨o1, d1, J1, _⟩ := StX.insC_at (X := X) I (.inr ⟨dx, fs, hp⟩)
  obtain ⟨Pp, Z, hpp, _⟩ := kit_of I ry ty
  obtain ⟨m, hF⟩ := I.fr
  rw [hop]
  refine PySem.W.cmp_K (op := op) (tb := t) room.units0 hF I.ok.mod.kin J1 (Z.ty _ _ I.kIn hpp) nf hs hf (wpAny_mono (wpAny_call (run_fnR (us := [.ref p, u]) (vs := [.ref p, y]) F room hx I (.cons rfl (.cons ry .nil)) want)) (fun r s' got => ?_) fun _ _ same => same)
  obtain ⟨z, H', I', rz, end_⟩ := got
  exact SlX.cmpback rz ⟨z, H', I', rz, end_⟩
theorem mt_scount : MtR X "str.count" (fun x xs H Q => ∃ a b, x = .str a ∧ xs = [.str b] ∧ Q (.int (Txt.count a b)) H) := by
  intro pins s σ H x xs v us Q I rx rxs h
  obtain ⟨a, b, rfl, rfl, q⟩ := h
  obtain ⟨t, rfl⟩ := rx
  obtain ⟨u, rfl, ru⟩ := rxs.one
  obtain ⟨t2, rfl⟩ := ru
  exact PySem.W.KXw.count rfl fun t' k => ⟨.int _, H, I.tok _, ⟨_, rfl⟩, q⟩
end
end KD
set_option Elab.async false
set_option linter.all false
set_option maxRecDepth 100000
set_option maxHeartbeats 4000000
namespace KD
open PySem PySem.Spec PyProof.Rows L2 LamX
/-! ### defs that are run where no object is being shown -/
def RunAt (P : Program) (w : World) (K : PySem.W.Frag) (mg : Str → Option Value) (base : Heap) (A : Around) (f : Addr) (fd : FuncData) (ps : List Str) (sp : Sp) : Prop :=
  ∀ (outer : List Env) (s : Shared) (H : Hp) (args : Args) (us : List Value) (vs : List V) (Q : VK) (E : XK), Env0 P w K mg base A outer s H → BindsTo s fd args (ps.zip us) → Vals vs us → sp vs H Q E →
    codeAny (model P w) A (.call (.ref f) args) (CR CX0 outer P w H s Q E) s
structure FnG (P : Program) (w : World) (K : PySem.W.Frag) (mg : Str → Option Value) (base : Heap) (k : Nat) (f : Addr) (fd : FuncData) (ps : List Str) (sp : Sp) : Prop where
  len : ∀ vs H Q E, sp vs H Q E → vs.length = ps.length
  run : ∀ A : Around, A.guards = some [] → Room k A → RunAt P w K mg base A f fd ps sp
theorem fnG_of {P : Program} {w : World} {K : PySem.W.Frag} {mg : Str → Option Value} {base : Heap} {k : Nat} {x qual : Str} {st : Stmt} {f : Addr} {oc kV doc pm cdv ct : Value} {an od : Option Addr} {osl : Array (Option Value)} {N ps : List Str} {sp : Sp}
    (at_ : K.lookup f = some ⟨oc, od, .func (PySem.W.fnOf x qual (defArgs st) (defBody st) (defScope st) .none kV doc pm an cdv ct), osl⟩) (code : PySem.W.codeIn K cdv qual = true) (S : FnScope N ps (defScope st)) (len : ∀ vs H Q E, sp vs H Q E → vs.length = ps.length)
    (body : ∀ (A : Around) (outer : List Env) (s : Shared) (H : Hp) (vs : List V) (Q : VK) (E : XK), A.guards = some [] → Room k (A.deeper (envOfC qual (defScope st) s.heap.objs.size f cdv)) → sp vs H Q E →
      ∃ t, PSs (cxOf CX0 P w K mg base N qual (defScope st) f cdv A outer s H E).nox (defBody st) t ∧ t { nx := fun _ H' => Q .non H', rt := Q } (start N vs) H) :
    FnG P w K mg base (k + 1) f (PySem.W.fnOf x qual (defArgs st) (defBody st) (defScope st) .none kV doc pm an cdv ct) ps sp := by
  refine ⟨len, fun A gd room outer s H args us vs Q E e0 bind vals want => ?_⟩
  have many := len _ _ _ _ want
  have inK : K.In s.heap := e0.mod.kin.keeps fun b o q => (e0.bs b o q).1
  have free : s.heap.NoLimit := e0.mod.nolimit.keeps fun b o q => (e0.bs b o q).1
  have kinds : ∀ y ∈ ps.zip us, (defScope st).names.lookup y.1 = some .local ∨ ((defScope st).names.lookup y.1 = some .cell ∧ ((cellsFrom (s.heap.objs.size + 1) (defScope st).names []).lookup y.1).isSome = true) := fun y hy =>
    (S.par y.1 (List.of_mem_zip hy).1).imp id fun q => ⟨q, PySem.W.cellsFrom_some _ _ _ (.inl q)⟩
  refine codeAny_call_function room.depth (inK _ _ at_) rfl S.co S.gen rfl (PySem.W.codeRec_of inK code) (bind _ _ _ _ ?_)
  refine wpAny_newFunctionEnv_cells S.kind kinds fun env he s1 call => ?_
  subst he
  obtain ⟨t, does, reads⟩ := body A outer s H vs Q E gd (room.deeper _) want
  refine ⟨free.keeps call.toInCall.keep, codeAny_func (wpAny_mono (does.nox.run [] s1 (start N vs) H _ (inv_start S room.hd e0 many vals call) reads) (fun fl s' ends => ?_) fun _ _ q => q)⟩
  cases fl with
  | ret u => exact let ⟨v, σ', H', J, rv, q⟩ := ends; ⟨v, H', J.os, J.bare, J.base, J.hok, rv, q⟩
  | next => exact let ⟨σ', H', J, q⟩ := ends; ⟨.non, H', J.os, J.bare, J.base, J.hok, rfl, q⟩
  | brk => exact let ⟨_, _, _, q⟩ := ends; False.elim q
  | cont => exact let ⟨_, _, _, q⟩ := ends; False.elim q
section
variable {X : Cx} {k : Nat} {f : Addr} {fd : FuncData} {ps : List Str} {sp : Sp} {E : XK} {x : Str} {e : Expr} {es : List Expr} {t : TA} {p pos : Pos}
/-- a call of such a def, where no object is being shown -/
theorem pe_callG (F : FnG X.prog X.w X.K X.mg X.base k f fd ps sp) (gd : X.A.guards = some []) (room : Room k X.A) (hg : Gl X x) (hm : X.mg x = some (.ref f)) (kp : PySem.W.keepIn X.K (.ref f) = true) (hb : Binds X.K fd ps [])
    (ha : PA X (e :: es) t) (nodb : (x == ("__debug__" : Str)) = false := by decide) (flat : starEach (e :: es) X.env = (false, eval e X.env) :: starEach es X.env := by rfl) (plain : (backTo pos (starEach es X.env)).any (·.1) = false := by rfl) :
    PE X (.Call (.Name x p) (e :: es) [] pos) (tCall sp [] E t) := by
  refine ⟨fun pins s σ H Q I h => ?_⟩
  refine wpAny_Call_Name_kw (ld_glob I hg hm ?_ nodb)
  refine PySem.W.callWith_K (h₀ := X.base) I.ok.mod.kin kp (thn (ha.run pos pins s σ H _ I h) fun us s1 ⟨vs, H1, J, r, q⟩ => ⟨J.kIn, ?_⟩) flat plain
  have q : sp vs H1 Q E := by rw [← List.append_nil vs]; exact q
  have many : us.length = ps.length := by rw [← r.length]; exact F.len _ _ _ _ q
  have bind := hb s1 us J.kIn (by rw [List.append_nil]; exact many)
  rw [List.append_nil] at bind
  refine wpAny_call (codeAny_mono (F.run X.A gd room X.stack s1 H1 ⟨us, []⟩ us vs Q E J.env0 bind r q) fun r s' got => ?_)
  match r, got with
  | .error _, got => exact False.elim got
  | .ok (.ret _), got => exact J.after got
  | .ok .next, got => exact False.elim got
  | .ok .brk, got => exact False.elim got
  | .ok .cont, got => exact False.elim got
/-! repr of what can be read, where no object is being shown -/
inductive RepV (K : PySem.W.Frag) (H : Hp) : V → Str → Prop
  | int {i : Int} (h : i.natAbs.log2 < 1920) : RepV K H (.int i) (toString i)
  | non : RepV K H .non "None"
  | bl (b : Bool) : RepV K H (.bl b) (if b then "True" else "False")
  | str {z : Str} (h : (reprText z).length ≤ sizeLine) : RepV K H (.str z) (reprText z)
  | obj {p : Addr} {d : PyData} (hd : Dp K H (.ref p) d) (h1 : d.showable = true) (h2 : d.hasDict = false) (h3 : d.depth ≤ 60) (h4 : d.shown.length ≤ sizeLine) : RepV K H (.ref p) d.shown
def rReprV (K : PySem.W.Frag) : List V → Hp → VK → Prop := fun xs H Q => ∃ (x : V) (s : Str), xs = [x] ∧ RepV K H x s ∧ Q (.str s) H
theorem call_reprV (gd : X.A.guards = some []) (hu : X.A.units + 64 < cLine) : CallR X (.builtin "repr") (rReprV X.K) := by
  intro pins s σ H xs us Q I r start
  obtain ⟨v, z, rfl, rep, q⟩ := start
  obtain ⟨u, rfl, ru⟩ := r.one
  cases rep with
  | int h =>
    obtain ⟨t, rfl⟩ := ru
    exact PySem.P.repr_of_int h ⟨.str _, H, I.tok _, ⟨_, rfl⟩, q⟩
  | non =>
    obtain rfl : u = Value.none := ru
    exact PySem.P.repr_of_none ⟨.str _, H, I.tok _, ⟨_, rfl⟩, q⟩
  | bl b =>
    obtain rfl : u = Value.bool b := ru
    exact PySem.P.repr_of_bool ⟨.str _, H, I.tok _, ⟨_, rfl⟩, q⟩
  | str h =>
    obtain ⟨t, rfl⟩ := ru
    exact PySem.P.repr_of_str ⟨.str _, H, I.tok _, ⟨_, rfl⟩, q⟩ h
  | @obj p d hd h1 h2 h3 h4 =>
    obtain ⟨as, reads⟩ := Dp.reads I d (.ref p) u hd ru
    obtain rfl : u = Value.ref p := ru
    exact repr_of_reads' reads h1 (fun h => by rw [h2] at h; cases h) gd (by omega) (fun _ _ e => e) (fun g t tk rest => ⟨.str d.shown, H, I.kept (t' := tk) rest, ⟨t, rfl⟩, q⟩) h4
end
/-! ### a law with lambdas, run at the top alone -/
def tab0 : Obj := { cls := .none, data := .fields #[] }
def fz (vs : List Value) (ns : List Int) : HO := .frz { cls := .type "list", data := .seq vs.toArray } (.lst (ns.map V.int))
/-- what the law is told: the empty tables, and the script, if it is none of the written objects -/
structure Told0 (P : Program) (w : World) (K : PySem.W.Frag) (h : Heap) (a : Addr) (ns : List Int) (Ts : List Addr) (H : Hp) : Prop where
  tabs : ∀ b ∈ Ts, H b = some (.tbl #[])
  only : ∀ b, b ∉ Ts → H b = none ∨ ∃ ob xs, H b = some (.frz ob (.lst xs))
  seq : SqL K H a (ns.map V.int)
  hok : HOk P w H h
  here : ∀ b, H b ≠ none → b = a ∨ b ∈ Ts
  lone : H a ≠ none → K.lookup a = none
theorem told0 {P : Program} {w : World} {K : PySem.W.Frag} {h : Heap} {a : Addr} {vs : List Value} {ns : List Int} {Ts : List Addr} (inK : K.In h) (ha : h.get? a = some { cls := .type "list", data := .seq vs.toArray }) (hi : IntsAre vs ns) (hl : ns.length ≤ sizeLine) (tb : ∀ b ∈ Ts, h.get? b = some tab0) : ∃ H : Hp, Told0 P w K h a ns Ts H := by
  have rv := vals_ints hi
  have off : a ∉ Ts := fun z => by
    have q := (tb a z).symm.trans ha
    exact nomatch congrArg Obj.data (Option.some.inj q)
  cases hk : K.lookup a with
  | some o =>
    obtain rfl : o = { cls := .type "list", data := .seq vs.toArray } := Option.some.inj ((inK a o hk).symm.trans ha)
    refine ⟨fun b => if b ∈ Ts then some (.tbl #[]) else none, fun b m => if_pos m, fun b m => .inl (if_neg m), .inr ⟨_, vs.toArray, _, hk, rfl, rfl, rfl, by rw [List.size_toArray, hi.length]; exact hl, by simpa using rv⟩, fun b u z => ?_, fun b z => .inr (Classical.byContradiction fun n => z (if_neg n)), fun z => absurd (if_neg off) z⟩
    by_cases m : b ∈ Ts
    · obtain rfl : HO.tbl #[] = u := Option.some.inj ((if_pos m).symm.trans z)
      exact tb b m
    · exact nomatch (if_neg m).symm.trans z
  | none =>
    have ifa : (if a ∈ Ts then some (HO.tbl #[]) else if a = a then some (fz vs ns) else none) = some (fz vs ns) := (if_neg off).trans (if_pos rfl)
    refine ⟨fun b => if b ∈ Ts then some (.tbl #[]) else if b = a then some (fz vs ns) else none, fun b m => if_pos m, fun b m => ?_, .inl (.inr ⟨_, ifa⟩), fun b u z => ?_, fun b z => ?_, fun _ => hk⟩
    · by_cases e : b = a
      · exact .inr ⟨_, _, (if_neg m).trans (if_pos e)⟩
      · exact .inl ((if_neg m).trans (if_neg e))
    · by_cases m : b ∈ Ts
      · obtain rfl : HO.tbl #[] = u := Option.some.inj ((if_pos m).symm.trans z)
        exact tb b m
      · have z2 := (if_neg m).symm.trans z
        by_cases e : b = a
        · obtain rfl : fz vs ns = u := Option.some.inj ((if_pos e).symm.trans z2)
          have few : (ns.map V.int).length ≤ sizeLine := by rw [List.length_map]; exact hl
          rw [e]
          exact ⟨ha, few, vs, _, rv, ha⟩
        · exact nomatch (if_neg e).symm.trans z2
    · by_cases m : b ∈ Ts
      · exact .inr m
      · by_cases e : b = a
        · exact .inl e
        · exact absurd ((if_neg m).trans (if_neg e)) z
theorem top_tabs {P : Program} {w : World} {K : PySem.W.Frag} {mg mb : Str → Option Value} {fa a : Addr} {fd : FuncData} {x : Str} {sp : Sp} {s₁ : Shared} {vs : List Value} {ns : List Int} {cs : List (Addr × Addr)} (inK : K.In s₁.heap) (names : s₁.heap.Ns mainGlobals mg) (hb : s₁.heap.Ns builtinsNs mb)
    (boot : ∀ x : Str, x ≠ "__name__" → mb x = bootBuiltins x) (free : s₁.heap.NoLimit) (young : s₁.gens = #[]) (ha : s₁.heap.get? a = some { cls := .type "list", data := .seq vs.toArray }) (hi : IntsAre vs ns) (hl : ns.length ≤ sizeLine)
    (tb : ∀ p ∈ cs, s₁.heap.get? p.2 = some tab0) (away : ∀ p ∈ cs, K.lookup p.2 = none) (hd : ∀ p ∈ cs, PySem.W.codeHdIn K p.1 p.2 = true)
    (main : ∃ (bm : Addr) (ob : Obj), mg "__builtins__" = some (.ref bm) ∧ bm ≠ builtinsNs ∧ s₁.heap.get? bm = some ob ∧ ob.cls = .type "module" ∧ ob.dict = some builtinsNs ∧ ob.data = .plain)
    (F : ∀ base : Heap, K.In base → base.Ns mainGlobals mg → (∀ p ∈ cs, TabB base mg p.1 p.2) → RunAt P w K mg base callerA fa fd [x] sp) (bind : ∀ (s : Shared) (u : Value), BindsTo s fd ⟨[u], []⟩ [(x, u)])
    (want : ∀ H : Hp, (∀ p ∈ cs, H p.2 = some (.tbl #[])) → SqL K H a (ns.map V.int) → sp [.ref a] H (fun v _ => v = .bl true) fun _ _ _ => False) :
    codeAny (model P w) callerA (.call (.ref fa) ⟨[.ref a], []⟩) (fun r s' => r = .ok (.ret (.bool true)) ∧ OldK s₁.heap s'.heap ∧ s'.os = s₁.os ∧ AllBare s'.gens) s₁ := by
  have tb' : ∀ b ∈ cs.map (·.2), s₁.heap.get? b = some tab0 := fun b m => by
    obtain ⟨p, hp, rfl⟩ := List.mem_map.mp m
    exact tb p hp
  obtain ⟨H, told⟩ := told0 (P := P) (w := w) inK ha hi hl tb'
  have in_ : ∀ p ∈ cs, p.2 ∈ cs.map (·.2) := fun p hp => List.mem_map.mpr ⟨p, hp, rfl⟩
  -- what is neither a list nor a table stays in the base
  have out : ∀ {b : Addr} {o : Obj}, s₁.heap.get? b = some o → (∀ it n, o.data ≠ .seq it n) → o.data ≠ .fields #[] → (hidT s₁.heap H).get? b = some o := fun {b o} g n1 n2 => hidT_get g (Classical.byContradiction fun z => by
    rcases told.here b z with rfl | m
    · rw [ha] at g
      cases g
      exact n1 _ _ rfl
    · rw [tb' b m] at g
      cases g
      exact n2 rfl)
  have ns' : ∀ {b : Addr} {m : Str → Option Value}, s₁.heap.Ns b m → (hidT s₁.heap H).Ns b m := fun ⟨o, es, ep, g, d, r⟩ => ⟨o, es, ep, out g (fun _ _ z => nomatch d.symm.trans z) (fun z => nomatch d.symm.trans z), d, r⟩
  have inB : K.In (hidT s₁.heap H) := fun b o q => hidT_get (inK b o q) (Classical.byContradiction fun z => by
    rcases told.here b z with rfl | m
    · rw [told.lone z] at q
      cases q
    · obtain ⟨p, hp, rfl⟩ := List.mem_map.mp m
      rw [away p hp] at q
      cases q)
  have free' : (hidT s₁.heap H).NoLimit := let ⟨mc, h1, h2⟩ := free; ⟨mc, ns' h1, h2⟩
  have glob : ∀ {b : Addr} {o : Obj}, s₁.heap.get? b = some o → (∀ es n, o.data ≠ .dict es n) → mainGlobals ≠ b := fun g n z => by
    obtain ⟨o, es, ep, g2, d, _⟩ := names
    rw [z, g] at g2
    cases g2
    exact n _ _ d
  have tabs : ∀ p ∈ cs, TabB (hidT s₁.heap H) mg p.1 p.2 := fun p hp => by
    obtain ⟨bm, ob, m1, m2, m3, m4, m5, m6⟩ := main
    refine ⟨PySem.W.codeHd_of_K inB (hd p hp), ⟨bm, ob, m1, m2, (glob m3 fun _ _ z => nomatch m6.symm.trans z).symm, fun z => ?_, out m3 (fun _ _ z => nomatch m6.symm.trans z) (fun z => nomatch m6.symm.trans z), m4, m5, m6⟩, glob (tb p hp) fun _ _ z => nomatch z⟩
    rw [z, tb p hp] at m3
    cases m3
    cases m6
  have e0 : Env0 P w K mg (hidT s₁.heap H) callerA [] s₁ H := ⟨rfl, ⟨inB, ns' names, ⟨mb, ns' hb, boot⟩, free'⟩, fun b o q => of_hidT q, Nat.le_of_eq (hidT_size _ _), trivial, fun b m => absurd (show b ∈ ([] : List Addr) from m) List.not_mem_nil, told.hok, .of_eq young⟩
  refine codeAny_mono (F _ inB (ns' names) tabs [] s₁ H ⟨[.ref a], []⟩ [.ref a] [.ref a] _ _ e0 (bind s₁ (.ref a)) (.cons rfl .nil) (want H (fun p hp => told.tabs _ (in_ p hp)) told.seq)) fun r s' got => ?_
  match r, got with
  | .error e, got => exact False.elim got
  | .ok .next, got => exact False.elim got
  | .ok .brk, got => exact False.elim got
  | .ok .cont, got => exact False.elim got
  | .ok (.ret u), ⟨v, H', os, bare, un, hok', rv, q⟩ =>
    obtain rfl : v = .bl true := q
    obtain rfl : u = Value.bool true := rv
    have grew : ∀ p ∈ cs, ∃ more : Array Value, s'.heap.get? p.2 = some { cls := .none, data := .fields more } := fun p hp =>
      let ⟨more, z⟩ := un.tbls p.2 #[] (told.tabs _ (in_ p hp)); ⟨_, hok' p.2 _ z⟩
    have same : ∀ b o, b ∉ cs.map (·.2) → s₁.heap.get? b = some o → s'.heap.get? b = some o := fun b o n g => by
      rcases told.only b n with z | ⟨ob, xs, z⟩
      · exact un.keep b o g z (fun m => absurd (show b ∈ ([] : List Addr) from m) List.not_mem_nil) List.not_mem_nil
      · obtain ⟨e1, _⟩ := told.hok b _ z
        obtain ⟨e2, _⟩ := hok' b _ (un.frzs b ob _ z)
        rw [g] at e1
        cases e1
        exact e2
    refine ⟨rfl, ⟨fun b o g => ?_, fun b o g => ?_⟩, os, bare⟩
    · by_cases m : b ∈ cs.map (·.2)
      · obtain ⟨p, hp, rfl⟩ := List.mem_map.mp m
        obtain ⟨more, gm⟩ := grew p hp
        have hc := PySem.W.codeHd_of_K inK (hd p hp)
        obtain rfl : tab0 = o := Option.some.inj ((tb p hp).symm.trans g)
        exact .inr (.inl ⟨(hc.tab g).isCodeTable, rfl, #[], more, rfl, by rw [gm]; congr; exact (Array.empty_append).symm⟩)
      · exact .inl (same b o m g)
    · by_cases m : b ∈ cs.map (·.2)
      · obtain ⟨p, hp, rfl⟩ := List.mem_map.mp m
        obtain ⟨more, gm⟩ := grew p hp
        exact ⟨_, gm⟩
      · exact ⟨o, same b o m g⟩
def LawTop (l : PySem.W.OpenLaw) (w : World) (K : PySem.W.Frag) (x : Str) (mg : Str → Option Value) (fa : Addr) (h : Heap) : Prop :=
  ∃ (fd : FuncData) (cs : List (Addr × Addr)) (sp : Sp), (∀ p ∈ cs, h.get? p.2 = some tab0) ∧ (∀ p ∈ cs, K.lookup p.2 = none) ∧ (∀ p ∈ cs, PySem.W.codeHdIn K p.1 p.2 = true) ∧ (∀ (s : Shared) (u : Value), BindsTo s fd ⟨[u], []⟩ [(x, u)]) ∧
    (∀ (H : Hp) (a : Addr) (ns : List Int), ns.length ≤ 63 → (∀ p ∈ cs, H p.2 = some (.tbl #[])) → SqL K H a (ns.map V.int) → sp [.ref a] H (fun v _ => v = .bl true) fun _ _ _ => False) ∧
    ∀ base : Heap, K.In base → base.Ns mainGlobals mg → (∀ p ∈ cs, TabB base mg p.1 p.2) → RunAt l.prog w K mg base callerA fa fd [x] sp
theorem walk_tabs {l : PySem.W.OpenLaw} {q : Program} {loose : List Str} {XP : (Str → Option Value) → Heap → Prop} {YP : World → Heap → Prop} {d : DefRec} {K : Params → PySem.W.Frag} {x : Str} (many : l.most = some 63) (plain : d.params.defaults = []) (inK : ∀ (w : World) (h : Heap), YP w h → (K w.params).In h)
    (F : ∀ (w : World) (mg : Str → Option Value) (fa : Addr) (h : Heap), YP w h → (K w.params).In h → h.Ns mainGlobals mg → mg d.name = some (.ref fa) → LawTop l w (K w.params) x mg fa h) :
    PySem.W.WalkO q loose XP YP l.row.toRowW d [] (fun f vs => PySem.call f vs) :=
  Att.attach_callB many plain fun w s₀ s₁ mg mb fa o pm cd doc a vs ns G Y ho hd hcd hmg hobj hints hlen _ hg => by
    obtain ⟨fd, cs, sp, h1, h2, h3, h4, h5, h6⟩ := F w mg fa _ Y (inK w _ Y) G.T.g hmg
    exact top_tabs (inK w _ Y) G.T.g G.T.b G.T.builtins G.T.nolimit hg hobj hints (Nat.le_trans hlen (by decide)) h1 h2 h3 G.T.bmain h6 h4 fun H tb seq => h5 H a ns hlen tb seq
end KD
set_option Elab.async false
set_option linter.all false
set_option maxRecDepth 100000
set_option maxHeartbeats 4000000
namespace KErr
open PySem PySem.Spec PyProof.Rows L2 Evl
/-! ### a caught error that a name keeps -/
/-- at a stands the object oe -/
def errO (a : Addr) (oe : Obj) : HO := .ext fun h => h.get? a = some oe
/-- at a stands an error of the class D, its dict at dd with the fields fs -/
def ErrAt (H : Hp) (a D dd : Addr) (fs : List (Str × V)) : Prop := ∃ oe : Obj, H a = some (errO a oe) ∧ oe.cls = .ref D ∧ oe.dict = some dd ∧ (∃ vs, oe.data = .fields vs) ∧ H dd = some (.xd fs)
theorem ErrAt.mono {H H' : Hp} {a D dd : Addr} {fs : List (Str × V)} (h : ErrAt H a D dd fs) (e : Ex H H') : ErrAt H' a D dd fs := let ⟨oe, h1, h2, h3, h4, h5⟩ := h; ⟨oe, e _ _ h1, h2, h3, h4, e _ _ h5⟩
section
variable {X : Cx} {a D dd : Addr} {pins : List (Addr × Obj)} {σ : L2.St} {H : Hp} {s : Shared} {e : Expr} {te : TE} {pos : Pos} {fs : List (Str × V)}
theorem ErrAt.inst (I : Inv X pins σ H s) (h : ErrAt H a D dd fs) : ∃ oe od mA, PySem.W.InstAt s.heap a oe D (some od) ∧ s.heap.get? dd = some od ∧ s.heap.Ns1 dd mA ∧ ∀ f, RelO (fs.lookup f) (mA f) := by
  obtain ⟨oe, ha, hc, hd, ⟨vs, hv⟩, hx⟩ := h
  have at_ : s.heap.get? a = some oe := (show ObjOk X.prog X.w H s.heap a (errO a oe) from I.hok a _ ha).1
  obtain ⟨mA, ns, rel⟩ := (show ObjOk X.prog X.w H s.heap dd (.xd fs) from I.hok dd _ hx)
  obtain ⟨od, ho, _⟩ := lookIn_ns ns
  exact ⟨oe, od, mA, ⟨at_, hc, by unfold PySem.W.notCls; rw [hv] <;> rfl, by rw [hd]; exact ho⟩, ho, ns, rel⟩
/-- isinstance(error, class) -/
def rIsE (K : PySem.W.Frag) (D : Addr) : List V → Hp → VK → Prop := fun xs H Q => ∃ (a dd : Addr) (fs : List (Str × V)) (c : V) (cv : Value) (b : Bool), xs = [.ref a, c] ∧ (∀ u, RelV c u → u = cv) ∧ ErrAt H a D dd fs ∧ PySem.W.kitOne K (.ref D) cv = some b ∧ Q (.bl b) H
theorem call_isE (C : ExcC X.K D) (hcl : (PySem.W.clsIn X.K D).isSome = true) : CallR X (.builtin "isinstance") (rIsE X.K D) := by
  intro pins s σ H xs us Q I r h
  obtain ⟨a, dd, fs, c, cv, b, rfl, hcv, hE, e, q⟩ := h
  match us, r with
  | [_, _], .cons rx (.cons rt .nil) =>
    obtain rfl := (show _ = Value.ref a from rx)
    obtain rfl := hcv _ rt
    obtain ⟨oe, od, mA, J, _⟩ := hE.inst I
    exact PySem.W.kia_one (PySem.W.kitx_exc hcl C.hg C.hk C.hs C.ha C.hn C.ht C.hm) I.kIn J e (fun z => nomatch z) fun tk => ⟨.bl b, H, I.kept (t' := tk) fun _ _ z => z, rfl, q⟩
/-- error.field -/
def tErrF (D : Addr) (f : Str) (te : TE) : TE := fun σ H Q => te σ H fun x H1 => ∃ (a dd : Addr) (fs : List (Str × V)) (v : V), x = .ref a ∧ ErrAt H1 a D dd fs ∧ fs.lookup f = some v ∧ Q v H1
theorem pe_errF {f : Str} (C : ExcC X.K D) (no : PySem.W.findIn X.K (.ref D) f = some none) (he : PE X e te) (hb : attributeBase e f X.env (eval e X.env) = eval e X.env := by rfl) : PE X (.Attribute e f pos) (tErrF D f te) where
  run := fun pins s σ H Q I h => by
    refine attr_of hb (thn (he.run pins s σ H _ I h) fun u s1 got => ?_)
    obtain ⟨x, H1, I1, rx, a, dd, fs, v, rfl, hE, l, q⟩ := got
    obtain rfl : u = Value.ref a := rx
    obtain ⟨oe, od, mA, J, ho, ns, rel⟩ := hE.inst I1
    obtain ⟨od', ho', looks⟩ := lookIn_ns ns
    obtain rfl : od = od' := Option.some.inj (ho.symm.trans ho')
    obtain ⟨w', hw, rw'⟩ := RelO.some_of (v := v) (o := mA f) (by rw [← l]; exact rel f)
    exact HandSPX.exc_get I1.kIn J C.hg C.hk C.hs (PySem.W.findObj_own C.hd no rfl (by rw [looks, hw])) (handed_of rw') ⟨v, H1, I1.tok _, rw', q⟩
end
/-- an object that nothing knew is known from now on -/
theorem inv_track {X : Cx} {pins : List (Addr × Obj)} {σ : L2.St} {H : Hp} {s : Shared} {a : Addr} {oe : Obj} (I : Inv X pins σ H s) (ha : s.heap.get? a = some oe) (na : H a = none) (n0 : X.s_0.heap.get? a = none) (np : ∀ p ∈ X.pn ++ pins, p.1 ≠ a) (nl : X.env.locals ≠ a) (nc : ∀ x c, X.env.cells.lookup x = some c → c ≠ a) : Inv X pins σ (upd H a (errO a oe)) s where
  ok := I.ok
  os := I.os
  bare := I.bare
  base := {
    keep := I.base.keep
    slot := I.base.slot
    free := fun b o g n x => by
      have ne : b ≠ a := fun z => by rw [z, n0] at g; cases g
      rw [upd_ne ne]
      exact I.base.free b o g n x
    there := I.base.there
    tups := fun b xs q => by
      have t := I.base.tups b xs q
      rw [upd_ne (ne_of_none t na)]
      exact t
    frzs := fun b o u q => by
      have t := I.base.frzs b o u q
      rw [upd_ne (ne_of_none t na)]
      exact t
    tbls := fun b ps q => by
      obtain ⟨more, t⟩ := I.base.tbls b ps q
      exact ⟨more, by rw [upd_ne (ne_of_none t na)]; exact t⟩ }
  loc := I.loc
  cell := I.cell
  free := by rw [upd_ne nl]; exact I.free
  freeC := fun x c l => by rw [upd_ne (nc x c l)]; exact I.freeC x c l
  pin := fun p m => by
    obtain ⟨h1, h2, h3⟩ := I.pin p m
    exact ⟨h1, by rw [upd_ne (np p m)]; exact h2, h3⟩
  hok := fun b u q => by
    by_cases e : b = a
    · subst e
      rw [upd_same] at q
      cases q
      exact ⟨ha, ⟨oe, ha⟩, fun h1 h2 p k => k _ p⟩
    · rw [upd_ne e] at q
      exact (I.hok b u q).stay (fun _ _ _ z => z) (fun c z => by rw [upd_ne (ne_of_none z na)]; exact z) (fun c xs z => by rw [upd_ne (ne_of_none z na)]; exact z)
  len := I.len
end KErr
set_option Elab.async false
set_option linter.all false
set_option maxRecDepth 100000
set_option maxHeartbeats 4000000
namespace KErr
open PySem PySem.Spec PyProof.Rows L2 Evl
/-- as wAs, but the error is known behind the suite -/
def wKeep (K : PySem.W.Frag) (c : Value) (i : Nat) (ts : Addr → Value → Option Addr → TS) (D : Ends) : WX := fun cls d σ H =>
  PySem.W.exmOne K cls c = some true ∧ ∀ (a : Addr) (oe : Obj), H a = none → Zc cls d oe → (∃ vs, oe.data = .fields vs) →
    ts a cls d { nx := fun σ' H' => D.nx (σ'.set i none) (upd H' a (errO a oe)), rt := fun _ _ => False, bk := fun _ _ => False, ct := fun _ _ => False } (σ.set i (some (.ref a))) H
section
variable {X : Cx} {x n : Str} {c : Value} {i : Nat} {body rest : List Stmt} {st₀ : Stmt} {np q1 q2 : Pos} {tb : WX → TS} {ts : Addr → Value → Option Addr → TS}
theorem ps_try_keep (stk : X.stack = X.env :: X.outer) (frm : X.env.frame = some X.env.locals) (noex : X.ex = []) (nd : X.N.Nodup) (hi : X.N[i]? = some n) (loc : X.env.kindOf n = some .local) (nms : Names X x c)
    (bodyOk : ∀ (W : WX) (pn : List (Addr × Obj)) (xe : Value → Shared → Prop), Takes (X.tr pn xe) W → PassesOwn (model X.prog X.w) X.A X.env xe → PSs (X.tr pn xe) body (tb W))
    (suiteOk : ∀ (a : Addr) (oe : Obj) (cls : Value) (d : Option Addr) (pn : List (Addr × Obj)), Zc cls d oe → (∃ vs, oe.data = .fields vs) → PSs (X.suite a ((a, oe) :: pn)) (st₀ :: rest) (ts a cls d)) :
    PS X (.Try body [.ExceptHandler (some (.Name x np)) (some n) (st₀ :: rest) q1] [] [] q2) (fun D σ H => tb (wKeep X.K c i ts D) D σ H) := by
  refine ⟨fun pins s σ H D I told => ?_⟩
  have fine := I.ok
  have frames : X.A.frames = some (X.env :: X.outer) := by rw [fine.frames, stk]
  have there : Loc X.env.scope n := .inl loc
  refine wpAny_Try_except ?_
  let catch_ : Value → Shared → Prop := fun u s₁ => wpAny (model X.prog X.w) X.A (noteFrame u X.env) (fun _ s₂ => wpAny (model X.prog X.w) X.A (setFlight u none) (fun _ s₃ =>
      wpAny (model X.prog X.w) X.A (handleBy u X.env [.ExceptHandler (some (.Name x np)) (some n) (st₀ :: rest) q1]) (SP X pins D) X.xe s₃) X.xe s₂) X.xe s₁
  refine wpAny_mono ((bodyOk (wKeep X.K c i ts D) (X.pn ++ pins) catch_ (fun u t air => ?_) PassesOwn.looking).run [] s σ H D (I.toTry _) told) (fun fl t done => ?_) (fun _ _ z => z)
  · obtain ⟨a, B, t0, _, τ, G, cls, d, rfl, J', ground, up1, sky, na, os, ag, yes, act⟩ := air
    have J : Inv X pins τ G t0 := J'.ofTry fine
    have sky2 : Sky B (X.env :: X.outer) a (Zc cls d) X.env.locals t.heap := by rw [← stk]; exact sky
    show wpAny _ X.A (noteFrame (.ref a) X.env) _ _ t
    refine Sky.land Zc.steady frames frm sky2 fun g3 fly3 up3 => ?_
    have J3 : Inv X pins τ G { t with heap := g3 } := J.landed ground fly3.1 (up1.trans up3) os ag
    obtain ⟨e3, w3, get3, z3, dat3⟩ := fly3.there
    have off : a ∉ frs (X.env :: X.outer) := fun m => by
      obtain ⟨_, ob, g, no⟩ := fly3.2.2.1.mem m
      rw [get3] at g
      cases g
      exact no _ dat3
    have off1 : a ≠ X.env.locals := fun z => off (List.mem_filterMap.mpr ⟨X.env, List.mem_cons_self, by rw [frm, z]⟩)
    have off2 : a ∉ X.fs := fun m => by
      obtain ⟨v, hv, z⟩ := List.mem_filterMap.mp m
      exact off (List.mem_filterMap.mpr ⟨v, List.mem_cons_of_mem _ hv, z⟩)
    -- what stood ahead of the error is not the error
    have old : ∀ b o, t0.heap.get? b = some o → b ∉ frs X.stack → b ≠ a := fun b o g nf z => by
      have g2 := ground b o g nf
      rw [z, fly3.2.1] at g2
      cases g2
    have young : X.s_0.heap.get? a = none := by
      cases h0 : X.s_0.heap.get? a with
      | none => rfl
      | some o =>
        obtain ⟨o', g⟩ := J.base.there a o h0 (by rw [noex]; exact List.not_mem_nil)
        exact absurd rfl (old a o' g (by rw [stk]; exact off))
    have S3 := J3.suite get3 dat3 na off1 off2
    refine wpAny_handleBy_cons (codeAny_handlers_test ?_) (fun z => nomatch z)
    have kind : PySem.W.Looks (model X.prog X.w) g3 (typeOf (.ref a)) cls := fun A Q E s k q => wpAny_typeOf_ref (k _ _ get3) (by rw [z3.1]; exact q)
    have met := PySem.W.exm_one (M := model X.prog X.w) J3.kIn kind yes
    have named : ∀ {Q : Value → Shared → Prop} {E : Value → Shared → Prop}, Q c { t with heap := g3 } → wpAny (model X.prog X.w) (X.A.mark (some (.ref a))) (eval (.Name x np) X.env) Q E { t with heap := g3 } := fun q => by
      obtain ⟨hg, nodb, h | ⟨h, boot, nn⟩⟩ := nms
      · exact ld_glob (X := X.suite a ((a, e3) :: (X.pn ++ pins))) S3 hg h q nodb
      · exact ld_blt (X := X.suite a ((a, e3) :: (X.pn ++ pins))) S3 hg h boot q nn nodb
    refine named (met.here (codeAny_handlers_suite_as (HandSPX.lands_againZ fly3 fun g4 fly4 up4 => ?_)))
    have J4 : Inv X pins τ G { t with heap := g4 } := J.landed ground fly4.1 ((up1.trans up3).trans up4) os ag
    obtain ⟨e4, w4, get4, z4, dat4⟩ := fly4.there
    refine store_ok (X := X.suite a ((a, e4) :: (X.pn ++ pins))) (v := .ref a) (J4.suite get4 dat4 na off1 off2) nd hi there rfl (fun t5 S5 => ?_) (.inr loc)
    refine wpAny_mono ((suiteOk a e4 cls d (X.pn ++ pins) z4 ⟨_, dat4⟩).run [] t5 _ G _ S5 (act a e4 na z4 ⟨_, dat4⟩)) (fun fl t6 done => ?_) (fun _ _ z => False.elim z)
    match fl, done with
    | .next, ⟨τ6, G6, S6, q6⟩ =>
      refine gone_ok (X := X.suite a ((a, e4) :: (X.pn ++ pins))) S6 nd hi loc fun t7 S7 => ⟨_, _, inv_track (S7.unsuite fine) (S7.pin (a, e4) (List.mem_append_left _ List.mem_cons_self)).1 (S7.pin (a, e4) (List.mem_append_left _ List.mem_cons_self)).2.1 young (fun p m => ?_) (Ne.symm off1) (fun y b l z => ?_), q6⟩
      · obtain ⟨g, _, n1, n2, _⟩ := J.pin p m
        refine old p.1 p.2 g fun m2 => ?_
        rw [stk] at m2
        obtain ⟨v, hv, z⟩ := List.mem_filterMap.mp m2
        rcases List.mem_cons.mp hv with rfl | hv
        · rw [frm] at z
          exact n1 (Option.some.inj z).symm
        · exact n2 (List.mem_filterMap.mpr ⟨v, hv, z⟩)
      · obtain ⟨v, ob, g, dv⟩ := S7.cell y b l
        have g2 := (S7.pin (a, e4) (List.mem_append_left _ List.mem_cons_self)).1
        rw [z, g2] at g
        cases g
        rw [dat4] at dv
        cases dv
    | .brk, ⟨_, _, _, q6⟩ => exact False.elim q6
    | .cont, ⟨_, _, _, q6⟩ => exact False.elim q6
    | .ret _, ⟨_, _, _, _, _, q6⟩ => exact False.elim q6
  · match fl, done with
    | .next, ⟨τ, G, J, q⟩ => exact wpAny_execs_nil ⟨τ, G, J.ofTry fine, q⟩
    | .brk, ⟨τ, G, J, q⟩ => exact ⟨τ, G, J.ofTry fine, q⟩
    | .cont, ⟨τ, G, J, q⟩ => exact ⟨τ, G, J.ofTry fine, q⟩
    | .ret _, ⟨v, τ, G, J, r, q⟩ => exact ⟨v, τ, G, J.ofTry fine, r, q⟩
end
end KErr
set_option Elab.async false
set_option linter.all false
set_option maxRecDepth 100000
set_option maxHeartbeats 4000000
namespace KF
/-! ### the mathematics of a beat: L comings ahead, then again and again P of them -/
def place (L P i : Nat) : Nat := if i < L then i else L + (i - L) % P
def goesB (L P : Nat) (as : List Bool) (i : Nat) : Bool := as.getD (place L P i) false
def upTo (f : Nat → Bool) (c : Nat) : Nat := ((List.range c).filter f).length
def thr (L P : Nat) (as : List Bool) (c : Nat) : Nat := upTo (goesB L P as) c
def tot (L P : Nat) (as : List Bool) : Nat := thr L P as (L + P)
def cnt (as : List Bool) : Nat := (as.filter id).length
def each (L : Nat) (as : List Bool) : Nat := cnt (as.drop L)
theorem upTo_succ (f : Nat → Bool) (c : Nat) : upTo f (c + 1) = upTo f c + (if f c = true then 1 else 0) := by
  unfold upTo
  rw [List.range_succ, List.filter_append, List.length_append, List.filter_cons]
  split <;> rfl
theorem upTo_mono (f : Nat → Bool) {c d : Nat} (h : c ≤ d) : upTo f c ≤ upTo f d := by
  induction h with
  | refl => exact Nat.le_refl _
  | step _ ih =>
    rw [upTo_succ]
    omega
theorem upTo_le (f : Nat → Bool) (c : Nat) : upTo f c ≤ c := by
  have h := List.length_filter_le f (List.range c)
  rw [List.length_range] at h
  exact h
theorem upTo_inj (f : Nat → Bool) {c d : Nat} (hc : f c = true) (hd : f d = true) (h : upTo f (c + 1) = upTo f (d + 1)) : c = d := by
  have sc := upTo_succ f c
  have sd := upTo_succ f d
  rw [if_pos hc] at sc
  rw [if_pos hd] at sd
  rcases Nat.lt_trichotomy c d with l | e | l
  · have := upTo_mono f (show c + 1 ≤ d from l)
    omega
  · exact e
  · have := upTo_mono f (show d + 1 ≤ c from l)
    omega
theorem upTo_congr {f g : Nat → Bool} : ∀ {c : Nat}, (∀ i, i < c → f i = g i) → upTo f c = upTo g c
  | 0, _ => rfl
  | c + 1, h => by rw [upTo_succ, upTo_succ, upTo_congr (fun i hi => h i (Nat.lt_succ_of_lt hi)), h c (Nat.lt_succ_self c)]
theorem filter_get (f : Nat → Bool) : ∀ (n k c : Nat), ((List.range n).filter f)[k]? = some c → c < n ∧ f c = true ∧ upTo f c = k
  | 0, k, c, h => by simp at h
  | n + 1, k, c, h => by
    rw [List.range_succ, List.filter_append] at h
    by_cases hk : k < ((List.range n).filter f).length
    · rw [List.getElem?_append_left hk] at h
      obtain ⟨h1, h2, h3⟩ := filter_get f n k c h
      exact ⟨Nat.lt_succ_of_lt h1, h2, h3⟩
    · rw [List.getElem?_append_right (Nat.le_of_not_lt hk), List.filter_cons] at h
      split at h
      · rename_i hf
        have e : k - ((List.range n).filter f).length = 0 := by
          have := (List.getElem?_eq_some_iff.mp h).1
          simp at this
          omega
        rw [e] at h
        obtain rfl : n = c := by simpa using h
        exact ⟨Nat.lt_succ_self _, hf, by unfold upTo; omega⟩
      · simp at h
theorem place_low {L P i : Nat} (h : i < L + P) : place L P i = i := by
  unfold place
  split
  · rfl
  · rw [Nat.mod_eq_of_lt (by omega)]
    omega
theorem place_lt {L P : Nat} (hP : 0 < P) (i : Nat) : place L P i < L + P := by
  unfold place
  split
  · omega
  · have := Nat.mod_lt (i - L) hP
    omega
theorem place_per {L P i : Nat} (h : L ≤ i) : place L P (i + P) = place L P i := by
  unfold place
  rw [if_neg (by omega), if_neg (by omega), show i + P - L = i - L + P by omega, Nat.add_mod_right]
section
variable {L P : Nat} {as : List Bool}
theorem goes_per {i : Nat} (h : L ≤ i) : goesB L P as (i + P) = goesB L P as i := by
  unfold goesB
  rw [place_per h]
theorem goes_many {i : Nat} (h : L ≤ i) : ∀ t, goesB L P as (i + t * P) = goesB L P as i
  | 0 => by rw [Nat.zero_mul, Nat.add_zero]
  | t + 1 => by rw [show i + (t + 1) * P = i + t * P + P by rw [Nat.succ_mul]; omega, goes_per (by omega), goes_many h t]
theorem goes_low {i : Nat} (h : i < L + P) : goesB L P as i = as.getD i false := by
  unfold goesB
  rw [place_low h]
theorem thr_low {c : Nat} (h : c ≤ L + P) : thr L P as c = upTo (fun i => as.getD i false) c := upTo_congr fun i hi => goes_low (by omega)
theorem upTo_take (as : List Bool) : ∀ c, c ≤ as.length → upTo (fun i => as.getD i false) c = cnt (as.take c)
  | 0, _ => by simp [upTo, cnt]
  | c + 1, h => by
    have hc : c < as.length := h
    rw [upTo_succ, upTo_take as c (by omega), List.take_succ, List.getElem?_eq_getElem hc]
    unfold cnt
    rw [List.filter_append, List.length_append, List.getD_eq_getElem?_getD, List.getElem?_eq_getElem hc]
    show _ = _ + (List.filter id [as[c]]).length
    rw [List.filter_cons]
    show _ + (if as[c] = true then 1 else 0) = _ + (if as[c] = true then _ else _ : List Bool).length
    split <;> rfl
theorem thr_take (hl : as.length = L + P) {c : Nat} (h : c ≤ L + P) : thr L P as c = cnt (as.take c) := by
  rw [thr_low h, upTo_take as c (by omega)]
theorem cnt_app (xs ys : List Bool) : cnt (xs ++ ys) = cnt xs + cnt ys := by
  unfold cnt
  rw [List.filter_append, List.length_append]
theorem tot_is (hl : as.length = L + P) : tot L P as = thr L P as L + each L as := by
  unfold tot each
  rw [thr_take hl (Nat.le_refl _), thr_take hl (by omega), List.take_of_length_le (by omega), ← cnt_app, List.take_append_drop]
theorem thr_per (hl : as.length = L + P) {c : Nat} (h : L ≤ c) : thr L P as (c + P) = thr L P as c + each L as := by
  induction h with
  | refl => exact tot_is hl
  | @step m hm ih =>
    have hm : L ≤ m := hm
    have e1 := upTo_succ (goesB L P as) m
    have e2 := upTo_succ (goesB L P as) (m + P)
    rw [goes_per hm] at e2
    show upTo (goesB L P as) (m + 1 + P) = upTo (goesB L P as) (m + 1) + each L as
    have ih : upTo (goesB L P as) (m + P) = upTo (goesB L P as) m + each L as := ih
    rw [show m + 1 + P = m + P + 1 by omega, e2, e1, ih]
    omega
theorem thr_many (hl : as.length = L + P) {c : Nat} (h : L ≤ c) : ∀ t, thr L P as (c + t * P) = thr L P as c + t * each L as
  | 0 => by rw [Nat.zero_mul, Nat.zero_mul, Nat.add_zero, Nat.add_zero]
  | t + 1 => by
    rw [show c + (t + 1) * P = c + t * P + P by rw [Nat.succ_mul]; omega, thr_per hl (by omega), thr_many hl h t, Nat.succ_mul]
    omega
theorem thr_far (hl : as.length = L + P) {r : Nat} (hr : r ≤ P) (t : Nat) : thr L P as (L + r + t * P) = cnt (as.take L) + t * cnt (as.drop L) + cnt ((as.drop L).take r) := by
  rw [thr_many hl (by omega), thr_take hl (by omega), List.take_add, cnt_app]
  unfold each
  omega
theorem thr_all (hP : 0 < P) (hl : as.length = L + P) (h0 : each L as = 0) (c : Nat) : thr L P as c ≤ tot L P as := by
  by_cases h : c ≤ L + P
  · exact upTo_mono _ h
  · have e : c = (L + (c - L) % P) + (c - L) / P * P := by
      have := Nat.mod_add_div (c - L) P
      rw [Nat.mul_comm] at this
      omega
    have := Nat.mod_lt (c - L) hP
    rw [e, thr_many hl (by omega), h0, Nat.mul_zero, Nat.add_zero]
    exact upTo_mono _ (by omega)
/-- the comings of the list that go on -/
def goL (n : Nat) (as : List Bool) : List Nat := (List.range n).filter fun i => as.getD i false
theorem goL_len (L P : Nat) (as : List Bool) : (goL (L + P) as).length = tot L P as := (thr_low (Nat.le_refl _)).symm
theorem goL_get {k c : Nat} (h : (goL (L + P) as)[k]? = some c) : c < L + P ∧ goesB L P as c = true ∧ thr L P as c = k := by
  obtain ⟨h1, h2, h3⟩ := filter_get _ _ _ _ h
  exact ⟨h1, by rw [goes_low h1]; exact h2, by rw [thr_low (Nat.le_of_lt h1)]; exact h3⟩
theorem goL_side {k c : Nat} (h : (goL (L + P) as)[k]? = some c) : (L < c + 1) ↔ thr L P as L ≤ k := by
  obtain ⟨h1, h2, h3⟩ := goL_get h
  constructor
  · intro hc
    rw [← h3]
    exact upTo_mono _ (by omega)
  · intro hk
    refine Nat.lt_succ_of_le (Nat.le_of_not_lt fun lt => ?_)
    have := upTo_mono (goesB L P as) (show c + 1 ≤ L from lt)
    rw [upTo_succ, if_pos h2] at this
    have h3 : upTo (goesB L P as) c = k := h3
    have hk : upTo (goesB L P as) L ≤ k := hk
    omega
theorem from_get (g : Nat) : ∀ (n j : Nat), j < n - g → ((List.range n).filter fun i => decide (g ≤ i))[j]? = some (g + j)
  | 0, j, h => absurd h (by omega)
  | n + 1, j, h => by
    have len : ∀ n, ((List.range n).filter fun i => decide (g ≤ i)).length = n - g := fun n => by
      induction n with
      | zero => simp
      | succ n ih =>
        rw [List.range_succ, List.filter_append, List.length_append, ih, List.filter_cons]
        by_cases hg : g ≤ n
        · rw [if_pos (by simpa using hg)]
          simp
          omega
        · rw [if_neg (by simpa using hg)]
          simp
          omega
    rw [List.range_succ, List.filter_append]
    by_cases hj : j < n - g
    · rw [List.getElem?_append_left (by rw [len]; exact hj)]
      exact from_get g n j hj
    · rw [List.getElem?_append_right (by rw [len]; omega), len, List.filter_cons, if_pos (by simp; omega)]
      have e : j - (n - g) = 0 := by omega
      rw [e]
      simp
      omega
theorem from_len (g : Nat) (n : Nat) : ((List.range n).filter fun i => decide (g ≤ i)).length = n - g := by
  induction n with
  | zero => simp
  | succ n ih =>
    rw [List.range_succ, List.filter_append, List.length_append, ih, List.filter_cons]
    by_cases hg : g ≤ n
    · rw [if_pos (by simpa using hg)]
      simp
      omega
    · rw [if_neg (by simpa using hg)]
      simp
      omega
/-- the k-th coming that goes on, behind the first ones -/
theorem far_get (hP : 0 < P) (hl : as.length = L + P) (he : 0 < each L as) {k : Nat} (hk : tot L P as < k) : ∃ c0, (goL (L + P) as)[thr L P as L + (k - 1 - thr L P as L) % each L as]? = some c0 ∧
    goesB L P as (c0 + (k - 1 - thr L P as L) / each L as * P) = true ∧ thr L P as (c0 + (k - 1 - thr L P as L) / each L as * P + 1) = k := by
  have ht := tot_is hl
  have hm := Nat.mod_lt (k - 1 - thr L P as L) he
  have hd := Nat.mod_add_div (k - 1 - thr L P as L) (each L as)
  rw [Nat.mul_comm] at hd
  generalize hq : (k - 1 - thr L P as L) / each L as = q at hd
  generalize hr : (k - 1 - thr L P as L) % each L as = r at hm hd
  have hlt : thr L P as L + r < (goL (L + P) as).length := by rw [goL_len]; omega
  refine ⟨(goL (L + P) as)[thr L P as L + r], by simp [hlt], ?_⟩
  have hg : (goL (L + P) as)[thr L P as L + r]? = some (goL (L + P) as)[thr L P as L + r] := by simp [hlt]
  have hs := (goL_side hg).mpr (by omega)
  obtain ⟨h1, h2, h3⟩ := goL_get hg
  generalize (goL (L + P) as)[thr L P as L + r] = c0 at hg hs h1 h2 h3
  have g1 : goesB L P as (c0 + q * P) = true := by rw [goes_many (by omega)]; exact h2
  refine ⟨g1, ?_⟩
  have s := upTo_succ (goesB L P as) (c0 + q * P)
  rw [if_pos g1] at s
  have m := thr_many (P := P) hl (show L ≤ c0 by omega) q
  have m : upTo (goesB L P as) (c0 + q * P) = upTo (goesB L P as) c0 + q * each L as := m
  have h3 : upTo (goesB L P as) c0 = thr L P as L + r := h3
  show upTo (goesB L P as) (c0 + q * P + 1) = k
  rw [s, m, h3]
  omega
end
end KF
set_option Elab.async false
set_option linter.all false
set_option maxRecDepth 100000
set_option maxHeartbeats 4000000
namespace KF
open PySem PySem.Spec PyProof.Rows L2 Evl
local macro_rules | `(tactic| walk_at "ev") => `(tactic| repeat' (first | exact ev_c | exact ev_var rfl | exact rv_I0 | refine' rv_I ?_ | refine' rv_eq ?_ | refine' rv_ne ?_ | refine' ev_op ?_ ?_ ?_ | exact ea_nil | refine' ea_cons ?_ ?_ | refine' et_test ?_ | refine' et_B ?_ | refine' et_not ?_ | refine' ev_notV ?_))

theorem all_nat {n : Nat} {p : Nat → Bool} (h : (List.range n).all p = true) : ∀ i, i < n → p i = true := fun i hi => List.all_eq_true.mp h i (List.mem_range.mpr hi)
def EvI (te : TE) (σ : L2.St) (H : Hp) (C : Addr) (fs : List (Str × V)) : Prop := ∀ H1, Ex H H1 → ∀ Q : VK, (∀ p dx H2, H1 p = none → Ex H1 H2 → H2 p = some (.ins C dx fs) → Q (.ref p) H2) → te σ H1 Q
def EvW (K : PySem.W.Frag) (te : TE) (σ : L2.St) (H : Hp) (xs : List V) : Prop := ∀ H1, Ex H H1 → ∀ Q : VK, (∀ p H2, Ex H1 H2 → SqT K H2 p xs → Q (.ref p) H2) → te σ H1 Q
section
variable {σ : L2.St} {K : PySem.W.Frag} {H H' : Hp} {tx te ta tb tv : TE} {u t : TT} {v x y z : V} {r : R2} {D : Ends} {tz : TS}
theorem ev_isi {ta : TA} {c : V} {t u : Value} {b : Bool} (ha : EvA ta σ H [x, c]) (k : ClsV c u) (ty : ∀ H', Ex H H' → TyX K H' x t) (e : PySem.W.kitOne K t u = some b) : Ev (tCB (rIsi K) ta) σ H (.bl b) := fun H1 e1 Q q =>
  ha H1 e1 _ fun H2 e2 => ⟨x, c, t, u, b, rfl, k, ty H2 (e1.trans e2), e, q H2 e2⟩
theorem ev_chain {r r' : R2} {tc : TE} {k1 k2 : Bool} {z : V} (ha : Ev ta σ H x) (hb : Ev tb σ H y) (h1 : RV r x y H (.bl k1)) (hc : k1 = true → Ev tc σ H z ∧ RV r' y z H (.bl k2)) : Ev (tChain r r' ta tb tc) σ H (.bl (k1 && k2)) := fun H1 e1 Q q =>
  ha H1 e1 _ fun H2 e2 => hb H2 (e1.trans e2) _ fun H3 e3 => h1 H3 ((e1.trans e2).trans e3) _ fun H4 e4 => ⟨k1, rfl, by
    cases k1 with
    | true =>
      obtain ⟨h3, h4⟩ := hc rfl
      exact h3 H4 (((e1.trans e2).trans e3).trans e4) _ fun H5 e5 => h4 H5 ((((e1.trans e2).trans e3).trans e4).trans e5) _ fun H6 e6 => q H6 ((((e2.trans e3).trans e4).trans e5).trans e6)
    | false => exact q H4 ((e2.trans e3).trans e4)⟩
theorem ev_cval {ta : TE} {C : Addr} {mc : Value} {f : Str} {u : Value} (h : Ev ta σ H (.ref C)) (r : ClX.CRead K C mc) (k : ClX.CVal K C mc f v u) : Ev (ClX.tCVal K ta f) σ H v := fun H1 e Q q => h H1 e _ fun H2 e2 => ⟨C, mc, v, u, rfl, r, k, q H2 e2⟩
theorem ev_prop {C a : Addr} {dx : Addr} {fs : List (Str × V)} {sp : Sp} {E : XK} (h : Ev ta σ H (.ref a)) (ho : H a = some (.ins C dx fs)) (hs : SpV sp [.ref a] H v) : Ev (tProp C sp [] E ta) σ H v := fun H1 e Q q =>
  h H1 e _ fun H2 e2 => ⟨a, dx, fs, rfl, e2 _ _ (e _ _ ho), hs H2 (e.trans e2) Q (fun H3 e3 => q H3 (e2.trans e3)) E⟩
theorem ev_fld {C a : Addr} {dx : Addr} {fs : List (Str × V)} {f : Str} (h : Ev ta σ H (.ref a)) (ho : H a = some (.ins C dx fs)) (c : Cls K C) (n : NoAttr K C f) (l : fs.lookup f = some v) : Ev (tFld K ta f) σ H v := fun H1 e Q q =>
  h H1 e _ fun H2 e2 => ⟨a, C, dx, fs, v, rfl, e2 _ _ (e _ _ ho), c, n, l, q H2 e2⟩
theorem spv_get {C a : Addr} {dx : Addr} {fs : List (Str × V)} {f : Str} (ho : H a = some (.ins C dx fs)) (l : fs.lookup f = some v) : SpV (getSp C f) [.ref a] H v := fun H1 e Q q E => ⟨a, dx, fs, v, rfl, e _ _ ho, l, q H1 (Ex.refl _)⟩
end
section
variable {σ : L2.St} {K : PySem.W.Frag} {H H' : Hp} {tx te ta tb tv : TE} {u t : TT} {v x y z : V} {r : R2} {D : Ends} {tz : TS}
theorem el_lcS {s : Str} {tl' : TE} {j : Nat} {vs : List Nat} (f : Nat → Bool) (v : Nat → V) (h : Ev tl' σ H (.str s)) (hz : s.cps.size ≤ 40000) (hw : ∀ x, wipe ((wipe σ vs).set j (some x)) vs = wipe σ vs)
    (ht : ∀ (i : Nat) (c : Nat) H1, Ex H H1 → s.cps[i]? = some c → EvT t ((wipe σ vs).set j (some (.str ⟨#[c]⟩))) H1 (f i)) (he : ∀ (i : Nat) (c : Nat) H1, Ex H H1 → s.cps[i]? = some c → f i = true → Ev te ((wipe σ vs).set j (some (.str ⟨#[c]⟩))) H1 (v i)) :
    EvL (tLc (iStr tl') (gName j) t te vs) σ H (given s.cps.size f v) := fun H0 e Q q => h H0 e _ fun H1 e1 => ⟨s, rfl, fun Dl hD =>
  ⟨fun i m H' => m = s.cps.size - i ∧ i ≤ s.cps.size ∧ Cw H1 f v Dl i H', ⟨s.cps.size, by simp, Nat.zero_le _, hD, Ex.new hD, upd_same⟩, by
    rintro i m H' ⟨rfl, hi, p⟩
    by_cases hlt : i < s.cps.size
    · refine .inr ⟨hlt, Cw H1 f v Dl (i + 1), fun H2 p' => ⟨s.cps.size - (i + 1), by omega, rfl, hlt, p'⟩, ?_⟩
      rintro x H2 ⟨rfl, c, hc, rfl⟩
      exact ⟨hw _, cw_turn p (by omega) (ht i c H1 (e.trans e1) hc) (fun hf => he i c H1 (e.trans e1) hc hf)⟩
    · have e2 : i = s.cps.size := by omega
      subst e2
      exact .inl ⟨Nat.le_refl _, q Dl H' (fresh_back e1 p.1) (e1.trans p.2.1) p.2.2⟩⟩⟩
theorem el_lcT {a : Addr} {xs : List V} {tl : TE} {g : TG} {vs : List Nat} {σ' : V → L2.St} (f : Nat → Bool) (v : Nat → V) (h : Ev tl σ H (.ref a)) (hx : SqT K H a xs) (hz : xs.length ≤ 40000)
    (hg : ∀ (i : Nat) (x : V) H1 (Q : L2.St → Hp → Prop), Ex H H1 → xs[i]? = some x → Q (σ' x) H1 → g x (wipe σ vs) H1 Q) (hw : ∀ x, wipe (σ' x) vs = wipe σ vs)
    (ht : ∀ (i : Nat) (x : V) H1, Ex H H1 → xs[i]? = some x → EvT t (σ' x) H1 (f i)) (he : ∀ (i : Nat) (x : V) H1, Ex H H1 → xs[i]? = some x → f i = true → Ev te (σ' x) H1 (v i)) :
    EvL (tLc (iTup K tl) g t te vs) σ H (given xs.length f v) := fun H0 e Q q => h H0 e _ fun H1 e1 => ⟨a, rfl, ⟨xs, ex_t (e.trans e1) hx⟩, fun Dl hD =>
  lc_tup (xs := xs) (Cw H1 f v Dl) ⟨hD, Ex.new hD, upd_same⟩ (fun i H' _ p => ex_t ((e.trans e1).trans p.2.1) hx)
    (fun i x H' hi p => hg i x H' _ ((e.trans e1).trans p.2.1) hi ⟨hw x, cw_turn p (by have := (List.getElem?_eq_some_iff.mp hi).1; omega) (ht i x H1 (e.trans e1) hi) (fun hf => he i x H1 (e.trans e1) hi hf)⟩)
    (fun He cw => q Dl He (fresh_back e1 cw.1) (e1.trans cw.2.1) cw.2.2)⟩
theorem et_yes : EvT tYes σ H true := fun H1 _ _ q => q H1 (Ex.refl H1)
theorem eu_tuple {xs : List V} (h : EvL te σ H xs) : EvU (tCB (fun xs H Q => ∃ p ys, xs = [.ref p] ∧ ((SqL K H p ys ∧ ∀ l, H l = none → Q (.ref l) (upd H l (.tup ys))) ∨ (SqT K H p ys ∧ Q (.ref p) H))) (tCons te tNil)) σ H xs := fun H1 e Q q =>
  h H1 e _ fun p H2 _ e2 h2 => ⟨p, xs, rfl, .inl ⟨sq_of h2, fun l hl => q l _ (fresh_back e2 hl) (e2.trans (Ex.new hl)) upd_same⟩⟩
theorem ev_sum {ns : List Int} (h : EvL te σ H (ns.map V.int)) : Ev (tCB (rSum K) (tCons te tNil)) σ H (.int ns.sum) := fun H1 e Q q =>
  h H1 e _ fun p H2 _ e2 h2 => ⟨p, ns, rfl, sq_of h2, q H2 e2⟩
theorem el_is {xs ys : List V} (h : EvL te σ H xs) (e : xs = ys) : EvL te σ H ys := e ▸ h
theorem eu_is {xs ys : List V} (h : EvU te σ H xs) (e : xs = ys) : EvU te σ H ys := e ▸ h
end
section
variable {σ : L2.St} {K : PySem.W.Frag} {H H' : Hp} {tx te ta tb tv : TE} {u t : TT} {v x y z : V} {r : R2} {D : Ends} {tz : TS}
theorem q_asgTV {p : Addr} {xs : List V} {n : Nat} {tgs : TGs} (h : Ev te σ H (.ref p)) (hx : SqT K H p xs) (hl : xs.length = n) (k : ∀ H1, Ex H H1 → tgs xs σ H1 (tz D)) : tSeq (tAsg te (gTup K n tgs)) tz D σ H :=
  h H (Ex.refl _) _ fun H1 e => ⟨p, xs, rfl, ex_t e hx, hl, k H1 e⟩
end
theorem given_all {n : Nat} {v : Nat → V} : given n (fun _ => true) v = (List.range n).map v := by
  unfold given
  rw [List.filter_eq_self.mpr fun _ _ => rfl]
theorem pe_fldE {X : Cx} {K : PySem.W.Frag} {e : Expr} {ta : TE} {f : Str} {pos : Pos} (he : PE X e ta) (hb : attributeBase e f X.env (eval e X.env) = eval e X.env) (hK : X.K = K := by rfl) : PE X (.Attribute e f pos) (tFld K ta f) := by
  subst hK
  exact pe_fld he hb
section
variable {σ : L2.St} {K : PySem.W.Frag} {H H' : Hp} {tx te ta tb tv : TE} {u t : TT} {v x y z : V} {r : R2} {D : Ends} {tz : TS}
def ExB (p : Addr) (H H' : Hp) : Prop := ∀ b o, H b = some o → b ≠ p → H' b = some o
theorem ExB.refl (p : Addr) (H : Hp) : ExB p H H := fun _ _ h _ => h
theorem ExB.trans {p : Addr} {H H1 H2 : Hp} (a : ExB p H H1) (b : ExB p H1 H2) : ExB p H H2 := fun x o h n => b x o (a x o h n) n
theorem ExB.of {p : Addr} {H H' : Hp} (e : Ex H H') : ExB p H H' := fun x o h _ => e x o h
theorem q_fld {p C dx : Addr} {fs : List (Str × V)} {f : Str} (hv : Ev tv σ H y) (ha : Ev ta σ H (.ref p)) (hp : H p = some (.ins C dx fs)) (c : Cls K C) (n : NoAttr K C f) (hl : fs.length < 1000)
    (k : ∀ H1, ExB p H H1 → H1 p = some (.ins C dx (putF f y fs)) → tz D σ H1) : tSeq (sFld K ta tv f) tz D σ H :=
  hv H (Ex.refl _) _ fun H1 e1 => ha H1 e1 _ fun H2 e2 => ⟨p, C, dx, fs, rfl, e2 _ _ (e1 _ _ hp), c, n, hl, k _ (fun b o hb ne => by rw [upd_ne ne]; exact e2 _ _ (e1 _ _ hb)) upd_same⟩
end
section
variable {σ : L2.St} {K : PySem.W.Frag} {H H' : Hp} {tx te ta tb tv : TE} {u t : TT} {v x y z : V} {r : R2} {D : Ends} {tz : TS}
theorem el_sliceL {p : Addr} {xs : List V} {tl th : TO} {lo hi : Option Int} (h : Ev te σ H (.ref p)) (h1 : EvO tl σ H lo) (h2 : EvO th σ H hi) (hs : SqL K H p xs) : EvL (tSl (rSlL K) te tl th) σ H (cutV xs lo hi) := el_sl h h1 h2 hs
theorem el_listN {xs : List V} (h : EvL te σ H xs) : EvL (tCB (fun xs H Q => ∃ p ys, xs = [V.ref p] ∧ (SqL K H p ys ∨ SqT K H p ys) ∧ ∀ l, H l = none → Q (.ref l) (upd H l (.lst ys))) (tCons te tNil)) σ H xs := fun H1 e Q q =>
  h H1 e _ fun p H2 _ e2 h2 => ⟨p, xs, rfl, .inl (sq_of h2), fun l hl => q l _ (fresh_back e2 hl) (e2.trans (Ex.new hl)) upd_same⟩
theorem cut_ints (ns : List Int) (lo hi : Option Int) : ∃ ms : List Int, cutV (ns.map V.int) lo hi = ms.map V.int ∧ ms.length ≤ ns.length := by
  refine ⟨(ns.drop (HT.sIx ns.length 0 lo)).take (HT.sIx ns.length ns.length hi - HT.sIx ns.length 0 lo), ?_, ?_⟩
  · unfold cutV
    rw [List.length_map, List.map_take, List.map_drop]
  · rw [List.length_take, List.length_drop]
    omega
theorem ev_int {i : Int} (h : Ev te σ H (.int i)) : Ev (tCB (fun xs H Q => (∃ i, xs = [V.int i] ∧ Q (.int i) H) ∨ ∃ k, xs = [V.bl k] ∧ Q (.int (if k then 1 else 0)) H) (tCons te tNil)) σ H (.int i) := fun H1 e Q q => h H1 e _ fun H2 e2 => .inl ⟨i, rfl, q H2 e2⟩
theorem ev_intB {k : Bool} (h : Ev te σ H (.bl k)) : Ev (tCB (fun xs H Q => (∃ i, xs = [V.int i] ∧ Q (.int i) H) ∨ ∃ k, xs = [V.bl k] ∧ Q (.int (if k then 1 else 0)) H) (tCons te tNil)) σ H (.int (if k then 1 else 0)) := fun H1 e Q q => h H1 e _ fun H2 e2 => .inr ⟨k, rfl, q H2 e2⟩
theorem ev_lenS {p : Addr} {xs : List V} (ha : Ev ta σ H (.ref p)) (h : SqL K H p xs) : Ev (tCB (fun xs H Q => ∃ p ys, xs = [V.ref p] ∧ (SqL K H p ys ∨ SqT K H p ys) ∧ Q (.int (ys.length : Nat)) H) (tCons ta tNil)) σ H (.int (xs.length : Nat)) := ev_len ha h
theorem ev_abs {i : Int} (h : Ev te σ H (.int i)) : Ev (tCB (fun xs H Q => ∃ i, xs = [V.int i] ∧ Q (.int (if i < 0 then -i else i)) H) (tCons te tNil)) σ H (.int (if i < 0 then -i else i)) := fun H1 e Q q => h H1 e _ fun H2 e2 => ⟨i, rfl, q H2 e2⟩
end
theorem dp_ints {K : PySem.W.Frag} {H : Hp} : ∀ ns : List Int, DpAll K H (ns.map V.int) (ns.map PyData.int)
  | [] => .nil
  | n :: ns => .cons (.int n) (dp_ints ns)
theorem rv_neE {K : PySem.W.Frag} {H : Hp} {l q : Addr} {ns : List Int} (hl : H l = some (.lst (ns.map V.int))) (hq : H q = some (.lst [])) : RV (rNeD K) (.ref l) (.ref q) H (.bl (!PyData.eqv (.list (ns.map PyData.int)) (.list []))) := fun H1 e Q k =>
  ⟨.list (ns.map PyData.int), .list [], .lst (sq_of (e _ _ hl)) (dp_ints ns), .lst (sq_of (e _ _ hq)) .nil, PySem.W.ke_shaped_ints ns, PySem.W.ke_shaped_ints [], k H1 (Ex.refl H1)⟩
theorem eqv_nil (ns : List Int) : PyData.eqv (.list (ns.map PyData.int)) (.list []) = decide (ns = []) := by
  cases ns with
  | nil => simp [PyData.eqv, PyData.eqvAll]
  | cons n ns => simp [PyData.eqv, PyData.eqvAll]
theorem mul_bd {x y A B : Int} (h0 : 0 ≤ x) (h1 : x ≤ A) (h2 : 0 ≤ y) (h3 : y ≤ B) : 0 ≤ x * y ∧ x * y ≤ A * B :=
  ⟨Int.mul_nonneg h0 h2, Int.mul_le_mul h1 h3 h2 (Int.le_trans h0 h1)⟩
theorem s_retPen {te : TE} {σ : L2.St} {H : Hp} {D : Ends} {xs : List V} {x y : V} (h : EvL te σ H xs) (k : ∀ l p H1, H l = none → Ex H H1 → H1 l = some (.lst xs) → H1 p = none → D.rt (.ref p) (upd H1 p (.lst [.ref l, x, y]))) : tRet (tLst (tCons te (tCons (tC x) (tCons (tC y) tNil)))) D σ H :=
  h H (Ex.refl H) _ fun l H1 hl e1 h1 => ⟨by show 3 ≤ sizeLine; decide, fun p hp => k l p H1 hl e1 h1 hp⟩
theorem FnOk.either {P : Program} {w : World} {K : PySem.W.Frag} {mg : Str → Option Value} {base : Heap} {CX : CXT} {k : Nat} {f : Addr} {fd : FuncData} {ps : List Str} {s1 s2 : Sp} (F1 : FnOk P w K mg base CX k f fd ps s1) (F2 : FnOk P w K mg base CX k f fd ps s2) : FnOk P w K mg base CX k f fd ps (fun vs H Q E => s1 vs H Q E ∨ s2 vs H Q E) :=
  ⟨fun vs H Q E h => h.elim (F1.len vs H Q E) (F2.len vs H Q E), fun A outer s H args us vs Q E hr e0 hb r h => h.elim (F1.run A outer s H args us vs Q E hr e0 hb r) (F2.run A outer s H args us vs Q E hr e0 hb r)⟩
def TyE (K : PySem.W.Frag) (H : Hp) (x : V) (t : String) : Prop := ∀ H', Ex H H' → TyX K H' x (.type t)
def BadW (K : PySem.W.Frag) (H : Hp) (x : V) (m : Int) : Prop := (∃ (t : String) (b1 b2 : Bool), TyE K H x t ∧ kitB t "int" = some b1 ∧ kitB t "bool" = some b2 ∧ (b1 && !b2) = false) ∨ ∃ i : Int, x = .int i ∧ (i < 0 ∨ m < i)
theorem BadW.mono {K : PySem.W.Frag} {H H' : Hp} {x : V} {m : Int} (h : BadW K H x m) (e : Ex H H') : BadW K H' x m := by
  rcases h with ⟨t, b1, b2, ty, h1, h2, h3⟩ | h
  · exact .inl ⟨t, b1, b2, fun H1 e1 => ty H1 (e.trans e1), h1, h2, h3⟩
  · exact .inr h
def spW1 (K : PySem.W.Frag) : Sp := fun vs H Q _ => ∃ (x : V) (t : String) (b1 b2 : Bool), vs = [x] ∧ TyE K H x t ∧ kitB t "int" = some b1 ∧ kitB t "bool" = some b2 ∧ ∀ H', Ex H H' → Q (.bl (b1 && !b2)) H'
section
variable {K : PySem.W.Frag} {H : Hp}
theorem rv_isN {x : V} : RV (fun x y H Q => y = .non ∧ Q (.bl (decide (x = .non))) H) x .non H (.bl (decide (x = .non))) := fun H1 _ _ q => ⟨rfl, q H1 (Ex.refl H1)⟩
end
theorem op_eqE {X : Cx} {K : PySem.W.Frag} (h : X.K = K) (hu : X.A.units + 64 < cLine) : OpR X (compareOp .Eq) (rEqD K) := by
  subst h
  exact op_eqD hu
theorem op_ownBE {X : Cx} {K : PySem.W.Frag} {CX : CXT} {C g : Addr} {n : Nat} {sp : Sp} {E : XK} {op : CmpOp} (hK : X.K = K) (hop : ∀ a b, compareOp op a b = richCompare op a b) (hs : PySem.W.findIn K (.ref C) (cmpInfo op).2.1 = some (some (.ref g))) (hf : PySem.W.isFn K (.ref g) = true)
    (F : FnR X.prog X.w X.K X.mg X.base CX n g sp) (room : Room n X.A) (hx : Passes CX X E) : OpR X (compareOp op) (KD.rOwnB K C sp E) := by
  subst hK
  exact KD.op_ownB hop hs hf F room hx
theorem takes_len {X : Cx} {W : WX} (t : Takes X W) : Takes X (fun c d σ H => σ.length = X.N.length → W c d σ H) := fun u s' ⟨a, B, sI, pins, σ, H, cls, d, e, I, nb, up, sky, na, os, ag, w⟩ => t u s' ⟨a, B, sI, pins, σ, H, cls, d, e, I, nb, up, sky, na, os, ag, w I.len⟩
theorem op_neE {X : Cx} {K : PySem.W.Frag} (h : X.K = K) (hu : X.A.units + 64 < cLine) : OpR X (compareOp .NotEq) (rNeD K) := by
  subst h
  exact op_neD hu
theorem cl_of {K : PySem.W.Frag} {D : Addr} (C : ExcC K D) : (PySem.W.clsIn K D).isSome = true := by
  obtain ⟨cd, hc, _⟩ := PySem.W.any_some C.hd
  rw [hc]
  rfl
section
variable {X : Cx} {K : PySem.W.Frag}
theorem call_isiE (h : X.K = K) : CallR X (.builtin "isinstance") (rIsi K) := by
  subst h
  exact call_isi
theorem call_reprVE (h : X.K = K) (gd : X.A.guards = some []) (hu : X.A.units + 64 < cLine) : CallR X (.builtin "repr") (KD.rReprV K) := by
  subst h
  exact KD.call_reprV gd hu
theorem ix_listE (h : X.K = K) : IxR X (rIxL K) := by
  subst h
  exact ix_list
theorem op_notIn_seqE (h : X.K = K) : OpR X (compareOp .NotIn) (rIn K true) := by
  subst h
  exact op_notIn_seq
end
theorem q_asgRaw {te : TE} {i : Nat} {D : Ends} {tz : TS} {σ : L2.St} {H : Hp} (h : te σ H fun x H1 => tz D (σ.set i (some x)) H1) : tSeq (tAsg te (gName i)) tz D σ H := h
theorem ixN_nat {n j : Nat} (h : j < n) : ixN n ((j : Nat) : Int) = some j := by
  unfold ixN
  rw [if_pos (by omega), if_pos (by omega)]
  rfl
def tMethK (C : Addr) (m : Str) (sp : Sp) (gV : List V → List V → List V) (E : XK) (ta : TE) (tk : TA) : TE := fun σ H Q => ta σ H fun x H1 => ∃ a dx fs, x = .ref a ∧ H1 a = some (.ins C dx fs) ∧ fs.lookup m = none ∧ tk σ H1 fun zs H2 => sp (gV [x] zs) H2 Q E
section
variable {X : Cx} {CX : CXT} {k : Nat} {C p g : Addr} {sp : Sp} {E : XK} {o e : Expr} {es : List Expr} {m : Str} {pos apos : Pos} {ta : TE} {t tk : TA} {fd : FuncData} {ps ks : List Str} {kws : List Keyword} {gg : List Value → List Value → List Value} {gV : List V → List V → List V}
theorem pe_methK {pl : Sem Bool} (he : PE X o ta) (c : Cls X.K C) (hm : Meth X.K C m g) (F : FnOk X.prog X.w X.K X.mg X.base CX k g fd ps sp) (hr : Room k X.A) (hb : KBinds X.K fd ps ks gg gV) (hx : Passes CX X E) (hkw : PK X kws tk)
    (hall : (backToKw pos (keywordEach kws X.env)).all (·.1.isSome) = true := by rfl) (hks : (backToKw pos (keywordEach kws X.env)).filterMap (·.1) = ks := by rfl)
    (hpl : ((backTo pos (starEach [] X.env)).any (·.1) || (backToKw pos (keywordEach kws X.env)).any (·.1.isNone)) = false := by rfl)
    (ht : eval (.Call (.Attribute o m apos) [] kws pos) X.env = (do
      let ov ← eval o X.env
      standAt apos.atName
      let (f, first) ← holding [ov] (getMethod ov m pl)
      callWith pos f first (backTo pos (starEach [] X.env)) (backToKw pos (keywordEach kws X.env))) := by rfl) :
    PE X (.Call (.Attribute o m apos) [] kws pos) (tMethK C m sp gV E ta tk) := by
  refine ⟨fun pins s σ H Q I h => ?_⟩
  refine PySem.W.methodCall_KW (pl := pl) (thn (he.run pins s σ H _ I h) fun u s1 ⟨x, H1, I1, rx, a, dx, fs, ex, ea, l, q⟩ => ?_) ht
  subst ex
  obtain rfl : u = Value.ref a := rx
  refine getmeth_ok I1 ea c hm l ?_
  refine PySem.W.callWith_KW0 (first := [.ref a]) (h₀ := X.base) I1.ok.mod.kin hm.kp hall (thn (hkw.run pos pins s1 σ H1 _ I1 q) fun ws s3 ⟨zs, H2, I3, rz, q2⟩ => ⟨I3.kIn, ?_⟩) hpl
  rw [hks]
  exact run_fnk (us := [.ref a]) (vs := [.ref a]) F hr hb hx I3 (.cons rfl .nil) rz q2
end
namespace Ne
open PySem PySem.W
variable {M : Model} {prog : Program} {w : World} {A : Around} {E : Value → Shared → Prop} {s : Shared} {K : Frag} {x C f : Addr} {ox : Obj} {od : Option Obj}
theorem ifBound_ne {args : List Value} {Q : Option Value → Shared → Prop} (X : K.In s.heap) (I : InstAt s.heap x ox C od) (hs : findIn K (.ref C) "__ne__" = some (some (.builtin "object.__ne__")))
    (h : wpAny M A (call (.builtin "object.__ne__") (.ref x :: args)) (fun v => Q (some v)) E s) : wpAny M A (callSpecialIfBound? (.ref x) "__ne__" args) Q E s := by
  simp only [callSpecialIfBound?, bindSpecialIfBound?]
  refine wpAny_holding (wpAny_bind (wpAny_bind (wpAny_bind (I.type.here ((looks_findIn X hs).here ?_)))))
  refine wpAny_bind (wpAny_askSetting (wpAny_ite ?_))
  have done_ : wpAny M A (call (.builtin "object.__ne__") ([.ref x] ++ args) >>= fun v => pure (some v)) Q E s := wpAny_bind (wpAny_mono h (fun v s' h' => wpAny_pure h') fun _ _ h' => h')
  split
  · exact wpAny_bind (wpAny_of_eq (F.cmp_object.ne.bind _) (wpAny_pure (by exact done_)))
  · exact wpAny_tryCatch (wpAny_bind (wpAny_of_eq (F.cmp_object.ne.bind _) (wpAny_pure (by exact done_))))
theorem entry_ne {y : Value} {Q : Fin → Shared → Prop} (hu : A.units < cLine) (X : K.In s.heap) (I : InstAt s.heap x ox C od) (hs : findIn K (.ref C) "__eq__" = some (some (.ref f))) (hf : isFn K (.ref f) = true)
    (h : wpAny M A (call (.ref f) [.ref x, y]) (fun v s' => ∃ b, v = .bool b ∧ Q (.done (.ret (.bool (!b)))) s') E s) : wpAny M A (Builtin.«object.__ne__» ⟨[.ref x, y], []⟩) Q E s := by
  unfold Builtin.«object.__ne__»
  repeat (first
    | with_reducible refine wpAny_cRoomFor hu ?_
    | (refine wpAny_bind (m := callSpecialIfBound? (.ref x) (Str.ofString "__eq__") [y]) (ifBound_K X I hs hf (wpAny_mono h (fun r s' hr => by
          obtain ⟨b, rfl, hq⟩ := hr
          repeat (first | exact hq | exact wpAny_pure hq | exact wpAny_truthy_bool hq | (refine wpAny_bind (m := truthy (.bool _)) (wpAny_truthy_bool ?_)) | wp_step)) fun _ _ e => e)))
    | wp_step)
theorem rich_ne {y : Value} {Q : Value → Shared → Prop} (hu : A.units + 1 < cLine) (X : K.In s.heap) (I : InstAt s.heap x ox C od) (hy : Looks (model prog w) s.heap (typeOf y) (.ref C)) (hm : mroIn K C (.type "object") = some true)
    (hn : findIn K (.ref C) "__ne__" = some (some (.builtin "object.__ne__"))) (hs : findIn K (.ref C) "__eq__" = some (some (.ref f))) (hf : isFn K (.ref f) = true)
    (h : wpAny (model prog w) A.in1 (call (.ref f) [.ref x, y]) (fun v s' => ∃ b, v = .bool b ∧ Q (.bool (!b)) s') E s) : wpAny (model prog w) A (richCompare .NotEq (.ref x) y) Q E s := by
  have one : wpAny (model prog w) A (tryCompare (.ref x) "__ne__" y) (fun r s' => ∃ b, r = some (.bool b) ∧ Q (.bool b) s') E s := by
    unfold tryCompare
    refine wpAny_bind (ifBound_ne X I hn (wpAny_call (codeAny_call_builtin F.cmp_object.ne.plain F.cmpEntry_ne (check_slot F.cmpKind_ne F.cmpSplit_ne (I.type.andThen (looks_mroIn X hm)) (F.cmpArgs_ne _ _)
      (entry_ne (A := A.in1) (y := y) hu X I hs hf (wpAny_mono h (fun v s' hv => ?_) fun _ _ e => e))))))
    obtain ⟨b, rfl, hq⟩ := hv
    first | exact ⟨b, rfl, wpAny_pure ⟨!b, rfl, hq⟩⟩ | exact ⟨b, rfl, wpAny_pure (wpAny_pure ⟨!b, rfl, hq⟩)⟩ | exact ⟨b, rfl, ⟨!b, rfl, hq⟩⟩
  unfold richCompare
  simp only [oneThing_ref]
  refine wpAny_holding (wpAny_bind (wpAny_cRoomFor (Nat.lt_of_succ_lt hu) ?_))
  rw [cmpInfo_NotEq]
  dsimp only
  refine wpAny_bind (I.type.here (wpAny_bind (hy.here ?_)))
  rw [show (Value.ref C != Value.ref C) = false from by simp]
  simp only [Bool.false_eq_true, if_false]
  refine wpAny_bind (wpAny_pure ?_)
  simp only [Bool.false_eq_true, if_false]
  refine wpAny_bind (wpAny_mono one (fun r s' z => ?_) fun _ _ e => e)
  obtain ⟨b, rfl, hq⟩ := z
  first | exact wpAny_pure hq | exact wpAny_pure (wpAny_pure hq)
end Ne
open PySem
def rOwnNe (C : Addr) (sp : Sp) (E : XK) : R2 := fun x y H Q => ∃ (p dx : Addr) (fs : List (Str × V)) (q dy : Addr) (gs : List (Str × V)), x = .ref p ∧ y = .ref q ∧ H p = some (.ins C dx fs) ∧ H q = some (.ins C dy gs) ∧ sp [x, y] H (fun v H' => ∃ b, v = .bl b ∧ Q (.bl (!b)) H') E
section
variable {X : Cx} {CX : CXT} {C g : Addr} {n : Nat} {sp : Sp} {E : XK}
theorem op_ownNe (hn : PySem.W.findIn X.K (.ref C) "__ne__" = some (some (.builtin "object.__ne__"))) (hm : PySem.W.mroIn X.K C (.type "object") = some true) (hs : PySem.W.findIn X.K (.ref C) "__eq__" = some (some (.ref g))) (hf : PySem.W.isFn X.K (.ref g) = true)
    (F : FnR X.prog X.w X.K X.mg X.base CX n g sp) (room : Room (n + 1) X.A) (hx : Passes CX X E) : OpR X (compareOp .NotEq) (rOwnNe C sp E) := by
  intro pins s σ H x y v u Q I rx ry told
  obtain ⟨p, dx, fs, q, dy, gs, rfl, rfl, hp, hq, want⟩ := told
  obtain rfl : v = Value.ref p := rx
  obtain rfl : u = Value.ref q := ry
  obtain ⟨o1, d1, J1, _⟩ := StX.insC_at (X := X) I (.inr ⟨dx, fs, hp⟩)
  obtain ⟨o2, d2, J2, _⟩ := StX.insC_at (X := X) I (.inr ⟨dy, gs, hq⟩)
  have hu : X.A.units + 1 < cLine := by have := room.units; omega
  show wpAny (model X.prog X.w) X.A (richCompare .NotEq (.ref p) (.ref q)) _ _ _
  refine Ne.rich_ne hu I.kIn J1 J2.type hm hn hs hf (wpAny_mono (wpAny_call (SlX.run_at (us := [.ref p, .ref q]) (ws := [.ref p, .ref q]) F room.in1 I.env0.in1 hx I (.cons rfl (.cons rfl .nil)) want)) (fun r s' got => ?_) fun _ _ same => same)
  obtain ⟨z, H', I', rz, b, rfl, want2⟩ := got
  obtain rfl : r = Value.bool b := rz
  exact ⟨b, rfl, .bl (!b), H', I', rfl, want2⟩
end
section
variable {X : Cx} {CX : CXT} {C g : Addr} {n : Nat} {sp : Sp} {E : XK} {fd : FuncData} {ps : List Str}
theorem callK_of {M : Model} {A : Around} {E : Value → Shared → Prop} {s : Shared} {a : Addr} {pos : Pos} {Q : Value → Shared → Prop} {args : List (Bool × Sem Value)} {kws : List (Option Str × Sem Value)} (hplain : (args.any (·.1) || kws.any (·.1.isNone)) = false)
    (h : wpAny M A (evalArgs (.ref a) true args kws) (fun z s₁ => (∃ C ox od, PySem.W.InstAt s₁.heap a ox C od ∧ ox.data = .plain) ∧ wpAny M A (call (.ref a) ([] ++ z.pos) z.kw) Q E s₁) E s) : wpAny M A (callWith pos (.ref a) [] args kws) Q E s := by
  unfold callWith
  refine wpAny_bind (wpAny_holding (wpAny_mono h (fun got s2 there => wpAny_bind (wpAny_standAt ?_)) fun _ _ same => same))
  obtain ⟨⟨C, ox, od, J, hd⟩, go⟩ := there
  simp only [hplain]
  refine wpAny_bind ((PySem.W.kco_keeper (M := M) J hd).here ?_)
  exact wpAny_bind (wpAny_mono (wpAny_operateT go) (fun r s₂ hr => wpAny_bind (wpAny_holding (wpAny_point (wpAny_pure hr)))) fun _ _ y => y)
def tCallOK (C : Addr) (sp : Sp) (gV : List V → List V → List V) (E : XK) (tf : TE) (tk : TA) : TE := fun σ H Q => tf σ H fun y H1 => ∃ p, y = V.ref p ∧ tk σ H1 fun zs H2 => (∃ dx fs, H2 p = some (.ins C dx fs)) ∧ sp (gV [.ref p] zs) H2 Q E
theorem pe_callOK {fe : Expr} {pos : Pos} {kws : List Keyword} {tf : TE} {tk : TA} {ks : List Str} {gg : List Value → List Value → List Value} {gV : List V → List V → List V} (hf : PE X fe tf) (c : StX.CallO X.K C g) (F : FnOk X.prog X.w X.K X.mg X.base CX n g fd ps sp) (hr : Room n X.A) (hb : KBinds X.K fd ps ks gg gV) (hx : Passes CX X E)
    (hkw : PK X kws tk) (hall : (backToKw pos (keywordEach kws X.env)).all (·.1.isSome) = true := by rfl) (hks : (backToKw pos (keywordEach kws X.env)).filterMap (·.1) = ks := by rfl)
    (hpl : ((backTo pos (starEach [] X.env)).any (·.1) || (backToKw pos (keywordEach kws X.env)).any (·.1.isNone)) = false := by rfl)
    (ht : eval (.Call fe [] kws pos) X.env = (do callWith pos (← eval fe X.env) [] (backTo pos (starEach [] X.env)) (backToKw pos (keywordEach kws X.env))) := by rfl) : PE X (.Call fe [] kws pos) (tCallOK C sp gV E tf tk) := by
  refine ⟨fun pins s σ H Q I h => ?_⟩
  rw [ht]
  refine wpAny_bind (thn (hf.run pins s σ H _ I h) fun u s1 ⟨y, H1, I1, ry, p, ey, q⟩ => ?_)
  subst ey
  obtain rfl : u = Value.ref p := ry
  refine callK_of hpl (PyProof.Rows.evalArgs_kw2_nil hall (thn (hkw.run pos pins s1 σ H1 _ I1 q) fun ws s2 ⟨zs, H2, I2, rz, ⟨dx, fs, hi⟩, q2⟩ => ?_))
  obtain ⟨ox, od, J, hd⟩ := StX.insC_at (X := X) I2 (.inr ⟨dx, fs, hi⟩)
  refine ⟨⟨C, ox, od, J, hd⟩, ?_⟩
  rw [hks]
  have r2 := hb.rel (vs := [.ref p]) (us := [.ref p]) (.cons rfl .nil) rz
  have hl : (gg [.ref p] ws).length = ps.length := by rw [← r2.length]; exact F.len _ _ _ _ q2
  refine wpAny_call (PySem.W.kco_code (a := ⟨[] ++ [], ks.zip ws⟩) I2.kIn J hd c.at_ c.fn c.fi (codeAny_mono (F.run X.A X.stack s2 H2 ⟨[.ref p], ks.zip ws⟩ (gg [.ref p] ws) (gV [.ref p] zs) Q E hr I2.env0 (hb.to s2 [.ref p] ws I2.kIn hl) r2 q2) fun r s' hq => ?_))
  cases r with
  | error e => exact hx pins σ H2 s2 e s' I2 hq
  | ok fl =>
    cases fl with
    | ret u => exact I2.after hq
    | next => exact False.elim hq
    | brk => exact False.elim hq
    | cont => exact False.elim hq
end
theorem two {p : Addr → Prop} {c1 c2 : Addr} (a1 : p c1) (a2 : p c2) : ∀ c ∈ [c1, c2], p c := List.forall_mem_cons.mpr ⟨a1, List.forall_mem_cons.mpr ⟨a2, List.forall_mem_nil _⟩⟩
theorem off2 {c c1 c2 : Addr} (h : c ∉ [c1, c2]) : c ≠ c1 ∧ c ≠ c2 := by
  simp only [List.mem_cons, List.not_mem_nil, or_false, not_or] at h
  exact h
/-! the items of a tuple, counted -/
theorem enum1_meets {v : Value} {o : Obj} {St : Heap → Prop} (B : Begins v o St) : Meets (Builtin.«enumerate.__new__» ⟨[.type "enumerate", v], []⟩) (fun _ R s => St s.heap ∧
    R (.ok (.ret (.ref (s.heap.push o).objs.size))) { s with heap := (s.heap.push o).push { cls := .type "enumerate", data := .fields #[.none, .bool false, .ref s.heap.objs.size, rawInt 0, .none, .none] } }) :=
  .of_wp fun prog w A R ⟨hp, gn, dr, tk, os⟩ ⟨st, go⟩ => by
    have is_a := sub_enumerate
    have it1 : ∀ {A' : Around} {E Q : Value → Shared → Prop}, Q (.ref hp.objs.size) ⟨hp.push o, gn, dr, tk, os⟩ → wpAny (model prog w) A' (pyIter v) Q E ⟨hp, gn, dr, tk, os⟩ := fun q => B.iter prog w _ _ ⟨hp, gn, dr, tk, os⟩ _ st q
    wp_walk using it1
    refine wpAny_stack_any fun stack => wpAny_pure ?_
    split
    · rename_i c _ _ _ _ _
      cases (c == Value.type "enumerate") <;> (wp_walk using it1; exact ⟨_, rfl, go⟩)
    · wp_walk using it1
      exact ⟨_, rfl, go⟩
structure CountTo (b e it : Addr) (i : Nat) (h : Heap) : Prop where
  en : ∃ old, IsEnum h e it (i : Int) old
  tup : h.IsTupleIter it b i
section
variable {b e it : Addr} {i : Nat} {h h' : Heap}
theorem CountTo.obj (q : CountTo b e it i h) : ∀ c ∈ [e, it], ∃ o, h.get? c = some o ∧ ∀ v, o.data ≠ .cell v := by
  obtain ⟨old, he⟩ := q.en
  obtain ⟨p1, g1, _, n1⟩ := q.tup
  exact two ⟨_, he, nofun⟩ ⟨p1, g1, by rw [n1]; exact nofun⟩
theorem CountTo.lt (q : CountTo b e it i h) : ∀ c ∈ [e, it], c < h.objs.size := fun c m => let ⟨_, g, _⟩ := q.obj c m; Heap.lt_size g
theorem CountTo.keep (q : CountTo b e it i h) (k : ∀ c ∈ [e, it], ∀ o, h.get? c = some o → h'.get? c = some o) : CountTo b e it i h' := by
  obtain ⟨old, he⟩ := q.en
  refine ⟨⟨old, k e ?_ _ he⟩, q.tup.at fun o e => k it ?_ o e⟩ <;> simp
end
def ItEt (K : PySem.W.Frag) (b : Addr) : It :=
  ⟨fun i H => ∃ (ys : List V) (y : V), SqT K H b ys ∧ ys[i]? = some y, fun i H v H' => ∃ (T : Addr) (y : V), v = .ref T ∧ H T = none ∧ H' = upd H T (.tup [.int (i : Nat), y]) ∧ ∀ ys, SqT K H b ys → ys[i]? = some y, fun i H => ∃ ys : List V, SqT K H b ys ∧ i = ys.length⟩
theorem turn_enT {P : Program} {w : World} {K : PySem.W.Frag} {elts : List Expr} {kk : Nat} {tpos : Pos} {b e it : Addr} (ne : e ≠ it) (hb : b ≠ it) (hbe : e ≠ b) :
    Turn P w K (.Tuple elts kk tpos) (ItEt K b) [e, it] e (CountTo b e it) where
  mem := List.mem_cons_self ..
  obj := fun _ _ q => q.obj
  keep := fun _ _ _ q k => q.keep k
  self := fun _ _ _ _ _ q k => let ⟨_, he⟩ := q.en; wpAny_pyIter_enum he k
  item := by
    intro X e1 e2 e3 calm i pins s σ H E I free st more
    subst e1 e2 e3
    have quiet : X.A.in1.handled = none := I.ok.hd calm
    obtain ⟨ys, y, seq, hy⟩ := more
    obtain ⟨us, ru, isT, _⟩ := I.tuple seq
    obtain ⟨u, hu, ry⟩ := ru.get hy
    obtain ⟨old, he⟩ := st.en
    have in1 : i < us.toArray.size := by simpa using (List.getElem?_eq_some_iff.mp hu).1
    refine wpAny_pyNext_enum_itemC (Draws.tuple quiet it b hb us.toArray) he ⟨st.tup, isT⟩ in1 ne (fun m => by
      rcases List.mem_cons.mp m with z | m
      · exact ne z
      · exact hbe (List.mem_singleton.mp m)) fun w1 g tk src out s1 gT _ rest => ?_
    obtain rfl : u = w1 := Option.some.inj ((show us.toArray[i]? = some u by simpa using hu).symm.trans src)
    have elt := st.lt e (List.mem_cons_self ..)
    refine ⟨_, rfl, wpAny_letOwnedTupleGo_enum (s := { s with heap := g, toks := tk + 1 }) out fun g' en' but => ?_⟩
    have gT' := (but.2 _ (Nat.ne_of_gt elt)).trans gT
    have pair : ObjOk X.prog X.w (upd H s.heap.objs.size (.tup [.int (i : Nat), y])) g' s.heap.objs.size (.tup [.int (i : Nat), y]) := ⟨by show 2 ≤ sizeLine; decide, [.int (i : Nat) tk, u], .cons ⟨tk, rfl⟩ (.cons ry .nil), ⟨_, gT', rfl, _, rfl⟩⟩
    have far : ∀ c' o, c' ∉ [e, it] → s.heap.get? c' = some o → g'.get? c' = some o := fun c' o n q => by
      obtain ⟨n1, n2⟩ := off2 n
      exact (but.2 c' n1).trans (rest c' o n1 n2 q)
    refine ⟨.ref s.heap.objs.size, _, I.turnedNew (t' := tk + 1) (ch := [e, it]) far free (Nat.le_refl _) pair, rfl, ⟨_, y, rfl, I.hok.fresh (Nat.le_refl _), rfl, fun l hl => by rw [I.tuple_inj hl seq]; exact hy⟩, ?_, fun c' m => ?_⟩
    · refine ⟨⟨u, ?_⟩, s1.1.at fun o q => (but.2 _ ne.symm).trans q⟩
      rw [show ((i + 1 : Nat) : Int) = (i : Int) + 1 by omega]
      exact en'
    · exact (upd_ne (Nat.ne_of_lt (st.lt c' m))).trans (free c' m).1
  done := by
    intro X e1 e2 e3 calm i pins s σ H E I free st over
    subst e1 e2 e3
    obtain ⟨ys, seq, rfl⟩ := over
    obtain ⟨us, ru, isT, _⟩ := I.tuple seq
    have quiet : X.A.in1.handled = none := I.ok.hd calm
    have size : us.toArray.size = ys.length := by rw [ru.length]; simp
    obtain ⟨old, he⟩ := st.en
    refine wpAny_pyNext_enum_endD (Draws.tuple quiet it b hb us.toArray) he ⟨?_, isT⟩ fun g rest => ⟨rfl, I.turnedL (t' := s.toks) (ch := [e, it]) (fun c o n q => rest c o (off2 n).2 q) free⟩
    rw [size]
    exact st.tup
def iEnT (K : PySem.W.Frag) (te : TE) : TI := fun σ H R => te σ H fun v H1 => ∃ b ys, v = .ref b ∧ SqT K H1 b ys ∧ R (ItEt K b) H1
theorem pi_enT {X : Cx} {d : Expr} {te : TE} {p pos tpos : Pos} {elts : List Expr} {kk : Nat} (hg : Gl X "enumerate") (hm : X.mg "enumerate" = none) (ha : PE X d te) (flat : starEach [d] X.env = (false, eval d X.env) :: starEach [] X.env := by rfl)
    (plain : (backTo pos (starEach [] X.env)).any (·.1) = false := by rfl) : PI X (.Tuple elts kk tpos) (.Call (.Name "enumerate" p) [d] [] pos) (iEnT X.K te) where
  run := fun pins s σ H R I start => by
    have one : PA X [d] (tCons te tNil) := pa_cons (hs := flat) ha pa_nil
    refine Call_ (ld_blt I hg hm PyProof.Rows.boot_enumerate (PyProof.Rows.callWith_type1 (thn (one.run pos pins s σ H (fun vs H1 => ∃ b ys, vs = [.ref b] ∧ SqT X.K H1 b ys ∧ R (ItEt X.K b) H1) I ?st) fun us s1 ⟨vs, H1, J, r, q⟩ => ?_) flat plain))
    case st =>
      show te σ H fun v H1 => ∃ b ys, [v] = [V.ref b] ∧ SqT X.K H1 b ys ∧ R (ItEt X.K b) H1
      have : (fun v H1 => ∃ b ys, v = V.ref b ∧ SqT X.K H1 b ys ∧ R (ItEt X.K b) H1) = fun v H1 => ∃ b ys, [v] = [V.ref b] ∧ SqT X.K H1 b ys ∧ R (ItEt X.K b) H1 := by
        funext v H1
        simp
      rw [← this]
      exact start
    obtain ⟨b, ys, ev, seq, go⟩ := q
    subst ev
    cases r with | cons q1 q2 => ?_
    cases q2
    cases q1
    obtain ⟨ws, _, isT, _⟩ := J.tuple seq
    have bl : b < s1.heap.objs.size := let ⟨_, ho, _⟩ := id isT; Heap.lt_size ho
    have young : ∀ j, FpOk X pins H1 (s1.heap.objs.size + j) := fun j => J.fpOk (Nat.le_add_right ..) (J.hok.fresh (Nat.le_add_right ..))
    refine callType_new F.called_enumerate (by decide) (F.typeCall_enumerate_1 _) (F.newCall_enumerate_1 _) (fun obj => F.args_object_init_2 obj _) F.entry_enumerate_new (enum1_meets (begins_tuple b ws.toArray)) ⟨show s1.heap.IsTuple b ws.toArray from isT, ?_⟩
    have size : (s1.heap.push { cls := .type "tuple_iterator", data := .fields #[.ref b, .int 0 0] }).objs.size = s1.heap.objs.size + 1 := Heap.size_push ..
    show _ ∧ _
    rw [size]
    have new := Heap.get?_push_size (s1.heap.push { cls := .type "tuple_iterator", data := .fields #[.ref b, .int 0 0] }) (o := { cls := .type "enumerate", data := .fields #[.none, .bool false, .ref s1.heap.objs.size, rawInt 0, .none, .none] }) rfl
    rw [size] at new
    refine ⟨⟨_, new, rfl⟩, wpAny_pyIter_enum new ?_⟩
    exact ⟨s1.heap.objs.size + 1, _, CountTo b (s1.heap.objs.size + 1) s1.heap.objs.size, ItEt X.K b, H1, rfl, J.kept (t' := s1.toks) fun c o q => Heap.get?_push_of_some _ (Heap.get?_push_of_some _ q), turn_enT (Nat.succ_ne_self _) (Nat.ne_of_lt bl) (Nat.ne_of_gt (Nat.lt_succ_of_lt bl)), ⟨⟨_, new⟩, ⟨_, Heap.get?_push_of_some _ (Heap.get?_push_size _ rfl), rfl, rfl⟩⟩, two (young 1) (young 0), go⟩

end KF
set_option Elab.async false
set_option linter.all false
set_option maxRecDepth 100000
set_option maxHeartbeats 4000000
namespace KF
open PySem PySem.Spec PyProof.Rows L2 Evl
/-! ### sums of tuples of bools; slices, sums, comprehensions of tuples; divmod -/
theorem pre_bools (bs : List Bool) : ∀ n, n ≤ bs.length → preSum (fun i => if bs.getD i false = true then 1 else 0) n = (upTo (fun i => bs.getD i false) n : Nat)
  | 0, _ => rfl
  | n + 1, h => by
    rw [preSum, pre_bools bs n (by omega), upTo_succ]
    split <;> simp
def rSumB (K : PySem.W.Frag) : List V → Hp → VK → Prop := fun vs H Q => ∃ (a : Addr) (bs : List Bool), vs = [V.ref a] ∧ SqT K H a (bs.map V.bl) ∧ Q (.int (cnt bs : Nat)) H
theorem call_sumB {X : Cx} (hc : X.calm = true) : CallR X (.builtin "sum") (rSumB X.K) := by
  intro pins s σ H vs us Q I r h
  obtain ⟨a, bs, rfl, hs, q⟩ := h
  obtain ⟨its, rv, ht, _⟩ := I.tuple hs
  rw [Vals.ref1 r]
  have hb := rv.bls
  have ht : s.heap.IsTuple a its.toArray := ht
  obtain ⟨o, ho, hcl, n, hd⟩ := id ht
  have hne : a ≠ s.heap.objs.size := Nat.ne_of_lt (Heap.lt_size ho)
  have hsz : its.toArray.size = bs.length := by rw [hb]; simp
  have W := (Walks.tuple (prog := X.prog) (w := X.w) (A := X.A.in1) (I.ok.hd hc) s.heap.objs.size a hne its.toArray).toS
  rw [hsz] at W
  refine call_sum_walkAnyB (wpAny_pyIter_tuple ht ?_)
  refine ⟨s.heap.objs.size, _, _, _, _, _, _, fun i => if bs.getD i false = true then 1 else 0, rfl, W, ⟨⟨_, Heap.get?_push_size _ rfl, rfl, rfl⟩, ht.at fun o e => Heap.get?_push_of_some _ e⟩, fun b hb => ?_, fun i v hP => ?_, fun s' t' hm => ?_⟩
  · rcases List.mem_cons.mp hb with rfl | hb
    · exact Heap.lt_size (Heap.get?_push_size _ rfl)
    · obtain rfl := List.mem_singleton.mp hb
      exact Heap.lt_size (Heap.get?_push_of_some _ ho)
  · have hv' : its[i]? = some v := by simpa using hP
    rw [hb, List.getElem?_map] at hv'
    obtain ⟨b, hb2, rfl⟩ := Option.map_eq_some_iff.mp hv'
    exact .inr ⟨b, rfl, by
      show (if bs.getD i false = true then (1 : Int) else 0) = _
      rw [List.getD_eq_getElem?_getD, hb2] <;> rfl⟩
  · obtain ⟨h', g', d', tk', os'⟩ := s'
    have e1 : g' = s.gens := hm.gens
    have e2 : d' = s.drawn := hm.drawn
    have e3 : os' = s.os := hm.os
    subst e1 e2 e3
    refine ⟨.int _, H, I.kept fun b o e => hm.heap b o (fun hb => absurd (Heap.lt_size e) ((List.mem_singleton.mp hb) ▸ Nat.lt_irrefl _)) (Heap.get?_push_of_some _ e), ⟨_, rfl⟩, ?_⟩
    rw [pre_bools bs _ (Nat.le_refl _), upTo_take bs _ (Nat.le_refl _), List.take_length]
    exact q
/-- a tuple, made or old -/
def EvX (te : TE) (σ : L2.St) (H : Hp) (xs : List V) : Prop := ∀ H1, Ex H H1 → ∀ Q : VK, (∀ p H2, Ex H1 H2 → H2 p = some (.tup xs) → Q (.ref p) H2) → te σ H1 Q
section
variable {σ : L2.St} {K : PySem.W.Frag} {H H' : Hp} {tx te ta tb tv : TE} {u t : TT} {v x y z : V} {r : R2} {D : Ends} {tz : TS}
theorem ew_of {p : Addr} {xs : List V} (h : Ev te σ H (.ref p)) (hp : H p = some (.tup xs)) : EvX te σ H xs := fun H1 e Q q => h H1 e _ fun H2 e2 => q p H2 e2 ((e.trans e2) _ _ hp)
theorem ew_u {xs : List V} (h : EvU te σ H xs) : EvX te σ H xs := fun H1 e Q q => h H1 e _ fun p H2 _ e2 h2 => q p H2 e2 h2
theorem ew_is {xs ys : List V} (h : EvX te σ H xs) (e : xs = ys) : EvX te σ H ys := e ▸ h
theorem cut_whole {xs : List V} {lo hi : Option Int} (h : HT.sIx xs.length 0 lo = 0 ∧ HT.sIx xs.length xs.length hi = xs.length) : cutV xs lo hi = xs := by
  unfold cutV
  rw [h.1, h.2, List.drop_zero, Nat.sub_zero, List.take_length]
/-- t[lo:hi] -/
theorem ew_sl {tl th : TO} {lo hi : Option Int} {xs : List V} (h : EvX te σ H xs) (h1 : EvO tl σ H lo) (h2 : EvO th σ H hi) : EvX (tSl (rSlA K) te tl th) σ H (cutV xs lo hi) := fun H1 e Q q =>
  h H1 e _ fun p H2 e2 hp => h1 H2 (e.trans e2) _ fun H3 e3 => h2 H3 ((e.trans e2).trans e3) _ fun H4 e4 => ⟨p, xs, rfl, st_of ((e3.trans e4) _ _ hp), fun hw => q p H4 ((e2.trans e3).trans e4) (by rw [cut_whole hw]; exact (e3.trans e4) _ _ hp), fun _ l hl => q l _ (((e2.trans e3).trans e4).trans (Ex.new hl)) upd_same⟩
/-- t + u -/
theorem ew_cat {xs ys : List V} (h1 : EvX ta σ H xs) (h2 : EvX tb σ H ys) (hz : xs.length + ys.length ≤ 100000) : EvX (tOp (rCatA K) ta tb) σ H (xs ++ ys) := fun H1 e Q q =>
  h1 H1 e _ fun p H2 e2 hp => h2 H2 (e.trans e2) _ fun l H3 e3 hl => ⟨p, l, xs, ys, rfl, rfl, st_of (e3 _ _ hp), st_of hl, sz_of hz, fun n => q l H3 (e2.trans e3) (by rw [n]; exact hl), fun _ n => q p H3 (e2.trans e3) (by rw [n, List.append_nil]; exact e3 _ _ hp), fun _ _ a ha => q a _ ((e2.trans e3).trans (Ex.new ha)) upd_same⟩
theorem ev_sumB {bs : List Bool} (h : EvX te σ H (bs.map V.bl)) : Ev (tCB (rSumB K) (tCons te tNil)) σ H (.int (cnt bs : Nat)) := fun H1 e Q q => h H1 e _ fun p H2 e2 hp => ⟨p, bs, rfl, st_of hp, q H2 e2⟩
theorem el_listW {xs : List V} (h : EvX te σ H xs) : EvL (tCB (fun xs H Q => ∃ p ys, xs = [V.ref p] ∧ (SqL K H p ys ∨ SqT K H p ys) ∧ ∀ l, H l = none → Q (.ref l) (upd H l (.lst ys))) (tCons te tNil)) σ H xs := fun H1 e Q q =>
  h H1 e _ fun p H2 e2 h2 => ⟨p, xs, rfl, .inr (st_of h2), fun l hl => q l _ (fresh_back e2 hl) (e2.trans (Ex.new hl)) upd_same⟩
theorem ev_lenW {xs : List V} (h : EvX te σ H xs) : Ev (tCB (fun xs H Q => ∃ p ys, xs = [V.ref p] ∧ (SqL K H p ys ∨ SqT K H p ys) ∧ Q (.int (ys.length : Nat)) H) (tCons te tNil)) σ H (.int (xs.length : Nat)) := fun H1 e Q q =>
  h H1 e _ fun p H2 e2 h2 => ⟨p, xs, rfl, .inr (st_of h2), q H2 e2⟩
theorem ev_lenN {xs : List V} (h : EvL te σ H xs) : Ev (tCB (fun xs H Q => ∃ p ys, xs = [V.ref p] ∧ (SqL K H p ys ∨ SqT K H p ys) ∧ Q (.int (ys.length : Nat)) H) (tCons te tNil)) σ H (.int (xs.length : Nat)) := fun H1 e Q q =>
  h H1 e _ fun p H2 _ e2 h2 => ⟨p, xs, rfl, .inl (sq_of h2), q H2 e2⟩
/-- a comprehension over a tuple, made or old -/
theorem el_lcW {xs : List V} {tl : TE} {j : Nat} {vs : List Nat} (f : Nat → Bool) (v : Nat → V) (h : EvX tl σ H xs) (hz : xs.length ≤ 40000) (hw : ∀ x, wipe ((wipe σ vs).set j (some x)) vs = wipe σ vs)
    (ht : ∀ (i : Nat) (x : V) H1, Ex H H1 → xs[i]? = some x → EvT t ((wipe σ vs).set j (some x)) H1 (f i)) (he : ∀ (i : Nat) (x : V) H1, Ex H H1 → xs[i]? = some x → f i = true → Ev te ((wipe σ vs).set j (some x)) H1 (v i)) :
    EvL (tLc (iTup K tl) (gName j) t te vs) σ H (given xs.length f v) := fun H0 e Q q => h H0 e _ fun a H1 e1 hx => ⟨a, rfl, ⟨xs, st_of hx⟩, fun Dl hD =>
  lc_tup (xs := xs) (Cw H1 f v Dl) ⟨hD, Ex.new hD, upd_same⟩ (fun i H' _ p => st_of (p.2.1 _ _ hx)) (fun i x H' hi p => ⟨hw x, cw_turn p (by have := (List.getElem?_eq_some_iff.mp hi).1; omega) (ht i x H1 (e.trans e1) hi) (fun hf => he i x H1 (e.trans e1) hi hf)⟩)
    (fun H' p => q Dl H' (fresh_back e1 p.1) (e1.trans p.2.1) p.2.2)⟩
/-- a comprehension over enumerate(tuple) -/
theorem el_lcEn {b : Addr} {ys : List V} {tl : TE} {i1 i2 : Nat} {vs : List Nat} (f : Nat → Bool) (v : Nat → V) (h : Ev tl σ H (.ref b)) (hb : SqT K H b ys) (hz : ys.length ≤ 40000)
    (hw : ∀ x y, wipe (((wipe σ vs).set i1 (some x)).set i2 (some y)) vs = wipe σ vs)
    (ht : ∀ (i : Nat) (y : V) H1, Ex H H1 → ys[i]? = some y → EvT t (((wipe σ vs).set i1 (some (.int (i : Nat)))).set i2 (some y)) H1 (f i)) (he : ∀ (i : Nat) (y : V) H1, Ex H H1 → ys[i]? = some y → f i = true → Ev te (((wipe σ vs).set i1 (some (.int (i : Nat)))).set i2 (some y)) H1 (v i)) :
    EvL (tLc (iEnT K tl) (gTup K 2 (gCons (gName i1) (gCons (gName i2) gNil))) t te vs) σ H (given ys.length f v) := fun H0 e Q q => h H0 e _ fun H1 e1 => ⟨b, ys, rfl, ex_t (e.trans e1) hb, fun Dl hD =>
  ⟨fun i m H' => m = ys.length - i ∧ i ≤ ys.length ∧ Cw H1 f v Dl i H', ⟨ys.length, by simp, Nat.zero_le _, hD, Ex.new hD, upd_same⟩, by
    rintro i m H' ⟨rfl, hi, p⟩
    have hb' : SqT K H' b ys := ex_t ((e.trans e1).trans p.2.1) hb
    by_cases hlt : i < ys.length
    · refine .inr ⟨⟨ys, ys[i], hb', by simp [hlt]⟩, Cw H1 f v Dl (i + 1), fun H2 p' => ⟨ys.length - (i + 1), by omega, rfl, hlt, p'⟩, ?_⟩
      rintro x H2 ⟨T, y, rfl, hT, rfl, hy⟩
      have hy' := hy ys hb'
      have e2 : Ex H' (upd H' T (.tup [.int (i : Nat), y])) := Ex.new hT
      have p' : Cw H1 f v Dl i (upd H' T (.tup [.int (i : Nat), y])) := ⟨p.1, p.2.1.trans e2, e2 _ _ p.2.2⟩
      exact ⟨T, _, rfl, st_of upd_same, rfl, _, _, rfl, _, _, rfl, rfl, hw _ _, cw_turn p' (by omega) (ht i y H1 (e.trans e1) hy') (fun hf => he i y H1 (e.trans e1) hy' hf)⟩
    · have e2 : i = ys.length := by omega
      subst e2
      exact .inl ⟨⟨ys, hb', rfl⟩, q Dl H' (fresh_back e1 p.1) (e1.trans p.2.1) p.2.2⟩⟩⟩
/-- a, b = divmod(x, y) -/
theorem q_divmod {i j : Nat} {a b : Int} (h1 : Ev ta σ H (.int a)) (h2 : Ev tb σ H (.int b)) (h0 : 0 < b) (hb : b < 1073741824) (k : ∀ H1, Ex H H1 → tz D ((σ.set i (some (.int (a / b)))).set j (some (.int (a % b)))) H1) :
    tSeq (tAsg (tCB (fun xs H Q => ∃ i j, xs = [V.int i, V.int j] ∧ CDiv i j ∧ ∀ p, H p = none → Q (.ref p) (upd H p (.tup [.int (i / j), .int (i % j)]))) (tCons ta (tCons tb tNil))) (gTup K 2 (gCons (gName i) (gCons (gName j) gNil)))) tz D σ H :=
  h1 H (Ex.refl H) _ fun H1 e1 => h2 H1 e1 _ fun H2 e2 => ⟨a, b, rfl, ⟨h0, hb⟩, fun p hp => ⟨p, _, rfl, st_of upd_same, rfl, _, _, rfl, _, _, rfl, rfl, k _ ((e1.trans e2).trans (Ex.new hp))⟩⟩
end
/-! ### tuples of bools as data -/
theorem dp_bools {K : PySem.W.Frag} {H : Hp} : ∀ bs : List Bool, DpAll K H (bs.map V.bl) (bs.map PyData.bool)
  | [] => .nil
  | b :: bs => .cons (.bl b) (dp_bools bs)
theorem vals_flat : ∀ bs : List Bool, (bs.map V.bl).all flatV = true
  | [] => rfl
  | _ :: bs => vals_flat bs
theorem true_in : ∀ bs : List Bool, inV (.bl true) (bs.map V.bl) = decide (0 < cnt bs)
  | [] => rfl
  | b :: bs => by
    have ih := true_in bs
    unfold inV at ih ⊢
    rw [List.map_cons, List.any_cons, ih]
    cases b with
    | true => simp [cnt, eqV]
    | false => simp [cnt, eqV]
theorem eqv_bools : ∀ xs ys : List Bool, PyData.eqvAll (xs.map PyData.bool) (ys.map PyData.bool) = decide (xs = ys)
  | [], [] => by simp [PyData.eqvAll]
  | [], _ :: _ => by simp [PyData.eqvAll]
  | _ :: _, [] => by simp [PyData.eqvAll]
  | x :: xs, y :: ys => by
    simp only [List.map_cons, PyData.eqvAll, eqv_bools xs ys]
    cases x <;> cases y <;> simp [PyData.eqv]
end KF
set_option Elab.async false
set_option linter.all false
set_option maxRecDepth 100000
set_option maxHeartbeats 4000000
namespace KF
open PySem PySem.Spec PyProof.Rows L2 Evl
theorem lay_bools : ∀ bs : List Bool, PyData.canLayAll0 (bs.map PyData.bool) = true
  | [] => by simp [PyData.canLayAll0]
  | b :: bs => by simp [PyData.canLayAll0, PyData.canLay0, lay_bools bs]
theorem depth_bools : ∀ bs : List Bool, PyData.depthAll (bs.map PyData.bool) = 0
  | [] => by simp [PyData.depthAll]
  | b :: bs => by simp [PyData.depthAll, PyData.depth, depth_bools bs]
theorem weight_bools : ∀ bs : List Bool, PyData.weightAll (bs.map PyData.bool) ≤ 2 * bs.length
  | [] => by simp [PyData.weightAll]
  | b :: bs => by
    have := weight_bools bs
    simp only [List.map_cons, PyData.weightAll, PyData.weight, List.length_cons]
    omega
theorem show_bools : ∀ bs : List Bool, PyData.showableAll (bs.map PyData.bool) = true
  | [] => by simp [PyData.showableAll]
  | b :: bs => by simp [PyData.showableAll, PyData.showable, show_bools bs]
theorem nodict_bools : ∀ bs : List Bool, PyData.hasDictAll (bs.map PyData.bool) = false
  | [] => by simp [PyData.hasDictAll]
  | b :: bs => by simp [PyData.hasDictAll, PyData.hasDict, nodict_bools bs]
theorem shaped_tup (bs : List Bool) : SeqAt.shaped (.tuple (bs.map PyData.bool)) = true := by
  unfold SeqAt.shaped
  simp [PyData.canLay0, PyData.depth, lay_bools, depth_bools]
def partD (l p : Nat) (bs : List Bool) : PyData := .list [.int (l : Nat), .int (p : Nat), .tuple (bs.map PyData.bool)]
theorem log_small {n : Nat} (h : n < 1000) : ((n : Nat) : Int).natAbs.log2 < 1920 := by
  have e : ((n : Nat) : Int).natAbs = n := Int.natAbs_natCast n
  rw [e]
  by_cases z : n = 0
  · subst z; decide
  · exact Nat.lt_trans ((Nat.log2_lt z).mpr (Nat.lt_trans h (by decide : 1000 < 2 ^ 10))) (by decide)
theorem part_fits {l p : Nat} {bs : List Bool} (hl : l < 1000) (hp : p < 1000) (hb : bs.length ≤ 100) : (partD l p bs).showable = true ∧ (partD l p bs).hasDict = false ∧ (partD l p bs).depth ≤ 60 ∧ (partD l p bs).shown.length ≤ sizeLine := by
  have s1 := log_small hl
  have s2 := log_small hp
  refine ⟨?_, ?_, ?_, ?_⟩
  · unfold partD
    simp only [PyData.showable, PyData.showableAll, show_bools, Bool.and_true, Bool.and_eq_true, decide_eq_true_eq]
    exact ⟨s1, s2⟩
  · unfold partD
    simp [PyData.hasDict, PyData.hasDictAll, nodict_bools]
  · unfold partD
    simp [PyData.depth, PyData.depthAll, depth_bools]
  · refine PyData.shown_fits_of_layable0 (B := 13) (by decide) (by decide) ?_ ?_
    · unfold partD PyData.layable0
      have w := weight_bools bs
      simp only [PyData.canLay0, PyData.canLayAll0, PyData.depth, PyData.depthAll, PyData.weight, PyData.weightAll, lay_bools, depth_bools, Bool.and_true, Bool.true_and, Bool.and_eq_true, decide_eq_true_eq]
      refine ⟨by decide, ?_⟩
      refine decide_eq_true ?_
      have z : (2 : Nat) ^ 20 = 1048576 := by decide
      rw [z]
      split <;> split <;> omega
    · unfold partD
      have i1 : (PyData.shown (.int (l : Nat))).length ≤ 13 := PyData.shown_int_le (by rw [Int.natAbs_natCast]; exact Nat.lt_trans hl (by decide))
      have i2 : (PyData.shown (.int (p : Nat))).length ≤ 13 := PyData.shown_int_le (by rw [Int.natAbs_natCast]; exact Nat.lt_trans hp (by decide))
      simp only [PyData.intsShort, PyData.intsShortAll, PyData.intsShortAll_bools, Bool.and_true, Bool.true_and, Bool.and_eq_true, decide_eq_true_eq]
      exact ⟨i1, i2⟩
def pairD (b : Bool) (n : Nat) : PyData := .list [.bool b, .int (n : Nat)]
theorem pair_fits : ∀ (b : Bool) (n : Nat), n < 61 → (pairD b n).showable = true ∧ (pairD b n).hasDict = false ∧ (pairD b n).depth ≤ 60 ∧ (pairD b n).shown.length ≤ sizeLine := by
  have h : ∀ b : Bool, ((List.range 61).all fun n => decide ((pairD b n).showable = true ∧ (pairD b n).hasDict = false ∧ (pairD b n).depth ≤ 60 ∧ (pairD b n).shown.length ≤ 1000)) = true := by decide +kernel
  intro b n hn
  obtain ⟨h1, h2, h3, h4⟩ := of_decide_eq_true (all_nat (h b) n hn)
  exact ⟨h1, h2, h3, Nat.le_trans h4 (by decide)⟩
end KF
set_option Elab.async false
set_option linter.all false
set_option maxRecDepth 100000
set_option maxHeartbeats 4000000
namespace KS
open PySem PySem.Spec PyProof.Rows L2
/-! ### the set of some texts: how many they are -/
/-- how many unlike texts stand among the first i -/
def unlike (xs : List Str) : Nat → Nat
  | 0 => 0
  | i + 1 => if (xs.take i).any (· == xs.getD i Str.empty) = true then unlike xs i else unlike xs i + 1
theorem unlike_le (xs : List Str) : ∀ i, unlike xs i ≤ i
  | 0 => Nat.le_refl _
  | i + 1 => by
    have := unlike_le xs i
    unfold unlike
    split <;> omega
theorem take_any (xs : List Str) {i : Nat} (h : i < xs.length) (k : Str) : (xs.take (i + 1)).any (· == k) = ((xs.take i).any (· == k) || decide (k = xs.getD i Str.empty)) := by
  rw [List.take_succ, List.getElem?_eq_getElem h, List.any_append, List.getD_eq_getElem?_getD, List.getElem?_eq_getElem h]
  congr 1
  show ((xs[i] == k) || false) = decide (k = xs[i])
  rw [Bool.or_false]
  by_cases e : k = xs[i]
  · rw [decide_eq_true e, beq_iff_eq.mpr e.symm]
  · rw [decide_eq_false e, beq_eq_false_iff_ne.mpr fun z => e z.symm]
section
variable {prog : Program} {w : World} {A : Around} {R : Result → Shared → Prop} {I : Addr} {fp wr : List Addr} {G : Array GenState → Array GenState → Prop} {n : Nat} {P : Nat → Value → Prop} {St : Nat → Shared → Prop}
/-- the loop that puts them in -/
theorem put_texts (W : WalksS prog w A.in1 I fp wr G n P St) (a : Addr) (away : a ∉ fp) (xs : List Str) (len : xs.length = n) (few : n + 1 < scanBound) (are : ∀ i v, P i v → ∃ t, v = .str (xs.getD i Str.empty) t) :
    ∀ (k i : Nat) (s : Shared), n - i = k → i ≤ n → St i s → s.heap.SetOf (PySem.strKind prog w) a (fun z => (xs.take i).any (· == z)) (unlike xs i) →
      (∀ s', Moved (a :: wr) G s s' → s'.heap.SetOf (PySem.strKind prog w) a (fun z => (xs.take n).any (· == z)) (unlike xs n) → R (.ok (.ret .none)) s') →
      codeAny (model prog w) A (.builtin "set.update.loop" ⟨[.ref a, .ref I], []⟩) R s := by
  have aw : a ∉ wr := fun z => away (W.sub _ z)
  have more : ∀ b ∈ wr, b ∈ a :: wr := fun b z => List.mem_cons_of_mem _ z
  have same : ∀ {s1 s2 : Shared} {S : Str → Bool} {c : Nat}, Moved wr G s1 s2 → s1.heap.SetOf (PySem.strKind prog w) a S c → s2.heap.SetOf (PySem.strKind prog w) a S c := fun m ⟨o, es, ep, t, ho, r⟩ => ⟨o, es, ep, t, m.heap a _ aw ho, r⟩
  intro k
  induction k with
  | zero =>
    intro i s hk hi st set fin
    obtain rfl : i = n := by omega
    refine codeAny_builtin PyProof.Rows.F.entry_set_update_loop ?_
    rw [Around.under_plainId PyProof.Rows.F.plain_set_update_loop _]
    show wpAny _ A.in1 (pyNext (.ref I) >>= fun _ => _) _ _ s
    exact wpAny_bind (W.done s _ _ st fun s1 m => wpAny_pure (fin s1 (m.mono more) (same m set)))
  | succ k ih =>
    intro i s hk hi st set fin
    have lt : i < n := by omega
    refine codeAny_builtin PyProof.Rows.F.entry_set_update_loop ?_
    rw [Around.under_plainId PyProof.Rows.F.plain_set_update_loop _]
    show wpAny _ A.in1 (pyNext (.ref I) >>= fun _ => _) _ _ s
    refine wpAny_bind (W.item i s _ _ lt st fun v s1 pv st1 m => ?_)
    obtain ⟨t, rfl⟩ := are i v pv
    have set1 := same m set
    show wpAny _ A.in1 (holding [Value.str (xs.getD i Str.empty) t] (setAdd a _) >>= fun _ => _) _ _ s1
    unfold setAdd
    have is_ : (PySem.strKind prog w).is (xs.getD i Str.empty) (.str (xs.getD i Str.empty) t) = true := PySem.strKind_is _ _ _ _
    refine wpAny_bind (wpAny_holding (wpAny_holding (wpAny_bind ((PySem.strKind prog w).pyHash is_ ?_))))
    have room : unlike xs i + 1 < scanBound := by have := unlike_le xs i; omega
    refine wpAny_setAddHashed_of (knd := PySem.strKind prog w) (s := { s1 with toks := s1.toks + 1 }) is_ rfl set1 room fun h' but set2 => ?_
    have set3 : h'.SetOf (PySem.strKind prog w) a (fun z => (xs.take (i + 1)).any (· == z)) (unlike xs (i + 1)) := SetOf_congr set2 (fun z => (take_any xs (by omega) z).symm) rfl
    have others : ∀ b, b ≠ a → ∀ o, s1.heap.get? b = some o → h'.get? b = some o := fun b ne o e => (but.2 b ne).trans e
    refine wpAny_pure ⟨plainId_quiet PyProof.Rows.F.plain_set_update_loop _, ih (i + 1) _ (by omega) lt (W.frame _ s1 _ _ st1 (Nat.le_succ _) fun b hb o e => others b (fun z => away (z ▸ hb)) o e) set3 fun s2 m2 set4 => ?_⟩
    exact fin s2 (Moved.trans W.gtrans ((m.mono more).then_heap (Nat.le_succ _) fun b o hb e => others b (fun z => hb (z ▸ List.mem_cons_self)) o e) m2) set4
end
end KS
set_option Elab.async false
set_option linter.all false
set_option maxRecDepth 100000
set_option maxHeartbeats 4000000
namespace KS
open PySem PySem.Spec PyProof.Rows L2
/-- what a set call asks of the thing that it walks -/
structure Walked (prog : Program) (w : World) (l : Addr) (T : String) (items : Array Value) (o : Obj) : Prop where
  cls : o.cls = .type T
  set : isSubtype (.type T) (.type "set") = pure false
  frz : isSubtype (.type T) (.type "frozenset") = pure false
  dct : (Value.type T == Value.type "dict") = false
  go : ∀ (A A1 : Around) (E : Value → Shared → Prop) (s : Shared) (Q : Value → Shared → Prop), A1.handled = none → s.heap.get? l = some o →
    (∀ (oi : Obj) (St : Nat → Shared → Prop), WalksS prog w A1 s.heap.objs.size [s.heap.objs.size, l] [s.heap.objs.size] (fun a b => b = a) items.size (fun i v => items[i]? = some v) St → St 0 { s with heap := s.heap.push oi } → Q (.ref s.heap.objs.size) { s with heap := s.heap.push oi }) →
    wpAny (model prog w) A (pyIter (.ref l)) Q E s
theorem walked_list {prog : Program} {w : World} {l : Addr} {items : Array Value} {o : Obj} (hc : o.cls = .type "list") {n : Nat} (hd : o.data = .seq items n) : Walked prog w l "list" items o where
  cls := hc
  set := PySem.F.sub_list_set
  frz := PySem.F.sub_list_frozenset
  dct := by decide
  go := fun A A1 E s Q hh ho k => by
    have isL : s.heap.IsList l items := ⟨o, ho, hc, n, hd⟩
    have ne : l ≠ s.heap.objs.size := Nat.ne_of_lt (Heap.lt_size ho)
    exact wpAny_pyIter_list isL (k _ _ (Walks.list hh _ l ne items).toS ⟨⟨_, Heap.get?_push_size _ rfl, rfl, rfl⟩, isL.push _⟩)
theorem walked_tuple {prog : Program} {w : World} {l : Addr} {items : Array Value} {o : Obj} (hc : o.cls = .type "tuple") {n : Nat} (hd : o.data = .seq items n) : Walked prog w l "tuple" items o where
  cls := hc
  set := PySem.F.sub_tuple_set
  frz := PySem.F.sub_tuple_frozenset
  dct := by decide
  go := fun A A1 E s Q hh ho k => by
    have isT : s.heap.IsTuple l items := ⟨o, ho, hc, n, hd⟩
    have ne : l ≠ s.heap.objs.size := Nat.ne_of_lt (Heap.lt_size ho)
    exact wpAny_pyIter_tuple isT (k _ _ (Walks.tuple hh _ l ne items).toS ⟨⟨_, Heap.get?_push_size _ rfl, rfl, rfl⟩, isT.push _⟩)
section
variable {prog : Program} {w : World} {A : Around} {E : Value → Shared → Prop} {s : Shared}
set_option maxHeartbeats 8000000 in
/-- set(x), x a list or a tuple of texts -/
theorem call_set_texts {l : Addr} {T : String} {items : Array Value} {ol : Obj} {xs : List Str} {Q : Value → Shared → Prop} (hh : A.handled = none) (hol : s.heap.get? l = some ol) (W : Walked prog w l T items ol) (are : ∀ i v, items[i]? = some v → ∃ t, v = Value.str (xs.getD i Str.empty) t) (len : xs.length = items.size) (few : items.size + 1 < scanBound)
    (h : ∀ (h' : Heap) (tk : Nat), h'.SetOf (PySem.strKind prog w) s.heap.objs.size (fun z => (xs.take items.size).any (· == z)) (unlike xs items.size) → (∀ b o, b < s.heap.objs.size → s.heap.get? b = some o → h'.get? b = some o) → Q (.ref s.heap.objs.size) { s with heap := h', toks := tk }) :
    wpAny (model prog w) A (call (.type "set") [.ref l]) Q E s := by
  obtain ⟨c, tl, mro⟩ := PySem.F.called_set.mro
  have made := PySem.F.called_set.made; have sub := PySem.F.called_set.sub
  refine wpAny_call (codeAny_of_tree ?_); show wpAny _ _ (callAny (.type "set") _) _ _ _
  refine wpAny_pure ⟨Code.quiet_builtin _ (by decide +kernel), codeAny_builtin PySem.F.entry_type_call ?_⟩; rw [Around.under_plain (weight_type_call_type "set" [.ref l] []) rfl]
  have a1 := PySem.F.called_set.notType; have a2 := PySem.F.called_set.canCreate; have a3 := PySem.F.typeCall_set_1 (.ref l)
  repeat (any_goals (first | assumption | wp_step))
  let e0 : Bool → Obj := fun led => { cls := .type "set", dict := none, data := .set #[] 0 (.fresh 0 0 led) }
  refine codeAny_mono (code_set_new_1 (.ref l) (E := E) (Q₁ := fun obj s1 => ∃ led : Bool, obj = .ref s.heap.objs.size ∧ s1 = { s with heap := s.heap.push (e0 led) }) fun led => ⟨led, rfl, rfl⟩) fun r s1 hr => ?_
  cases r with
  | error e => exact hr
  | ok fl => ?_
  cases fl with
  | next => exact hr.elim
  | brk => exact hr.elim
  | cont => exact hr.elim
  | ret obj => ?_
  obtain ⟨led, rfl, rfl⟩ := hr
  have here : (s.heap.push (e0 led)).get? s.heap.objs.size = some (e0 led) := Heap.get?_push_size _ rfl
  have ty : Shared.TypeIs { s with heap := s.heap.push (e0 led) } (.ref s.heap.objs.size) "set" := ⟨_, here, rfl⟩
  have b1 := PySem.F.called_set.init.lookup; have b2 := PySem.F.called_set.init.bind (.ref s.heap.objs.size)
  repeat (any_goals (first | assumption | wp_step))
  refine codeAny_mono (codeAny_call_builtin (R := wants (fun r s2 => r = .none ∧ ∃ h' tk, s2 = { s with heap := h', toks := tk } ∧ h'.SetOf (PySem.strKind prog w) s.heap.objs.size (fun z => (xs.take items.size).any (· == z)) (unlike xs items.size) ∧ (∀ b o, b < s.heap.objs.size → s.heap.get? b = some o → h'.get? b = some o)) E) PySem.F.called_set.init.plain PySem.F.entry_set_init (check_set_init_1 ty ?_)) fun r2 s2 hr2 => ?_
  · have hol1 : (s.heap.push (e0 led)).get? l = some ol := Heap.get?_push_of_some _ hol
    have lS : l < s.heap.objs.size := Heap.lt_size hol
    have quiet : A.in1.in1.in1.handled = none := by simp [hh]
    have size1 : (s.heap.push (e0 led)).objs.size = s.heap.objs.size + 1 := Heap.size_push ..
    have w1 := W.set; have w2 := W.frz; have w3 := W.dct; have go := W.go
    obtain ⟨ocls, odict, odata, oslots⟩ := ol
    obtain rfl : ocls = .type T := W.cls
    unfold Builtin.«set.__init__» noKeywords Builtin.Frozenset.updateFrom
    generalize hPI : pyIter = PI
    wp_walk
    subst hPI
    refine go _ A.in1.in1.in1 _ _ _ quiet hol1 fun oi St W1 st0 => wpAny_bind (wpAny_runValue ?_)
    have far : s.heap.objs.size ∉ [(s.heap.push (e0 led)).objs.size, l] := by
      rw [size1]
      intro m
      rcases List.mem_cons.mp m with z | m
      · exact absurd z (Nat.ne_of_lt (Nat.lt_succ_self _))
      · exact absurd (List.mem_singleton.mp m) (Nat.ne_of_gt lS)
    refine put_texts W1 s.heap.objs.size far xs len few are (items.size - 0) 0 _ rfl (Nat.zero_le _) st0 ?start fun s3 m3 set3 => ?fin
    case start =>
      have at2 : ((s.heap.push (e0 led)).push oi).get? s.heap.objs.size = some (e0 led) := Heap.get?_push_of_some _ here
      exact SetOf_congr ((setObjOf_fresh (knd := PySem.strKind prog w) led).setOf at2 (by unfold scanBound; omega)) (fun _ => rfl) rfl
    case fin =>
      obtain ⟨h3, g3, d3, tk3, os3⟩ := s3
      have eg : g3 = s.gens := m3.gens; have ed : d3 = s.drawn := m3.drawn; have eo : os3 = s.os := m3.os
      subst eg ed eo
      refine wpAny_pure (wpAny_pure ⟨rfl, h3, tk3, rfl, set3, fun b o hb e => ?_⟩)
      refine m3.heap b o (fun m => ?_) (Heap.get?_push_of_some _ (Heap.get?_push_of_some _ e))
      rcases List.mem_cons.mp m with z | m
      · exact absurd z (Nat.ne_of_lt hb)
      · have z := List.mem_singleton.mp m
        rw [size1] at z
        exact absurd z (Nat.ne_of_lt (Nat.lt_succ_of_lt hb))
  · cases r2 with
    | error e => exact hr2
    | ok fl2 => ?_
    cases fl2 with
    | next => exact hr2.elim
    | brk => exact hr2.elim
    | cont => exact hr2.elim
    | ret v2 => ?_
    obtain ⟨rfl, h3, tk3, rfl, set3, kept⟩ := hr2
    repeat (any_goals (first | assumption | wp_step))
    exact h _ _ set3 kept
end
end KS
set_option Elab.async false
set_option linter.all false
set_option maxRecDepth 100000
set_option maxHeartbeats 4000000
namespace KS
open PySem PySem.Spec PyProof.Rows L2 Evl
theorem unlike_two (a b : Str) : unlike [a, b] 2 = if a = b then 1 else 2 := by
  show (if ([a] : List Str).any (· == b) = true then (if ([] : List Str).any (· == a) = true then 0 else 0 + 1) else _ + 1) = _
  by_cases e : a = b
  · subst e
    simp [unlike]
  · simp [unlike, e]
/-- len(set(xs)), xs a list or a tuple of texts -/
def tLenT (K : PySem.W.Frag) (ta : TE) : TE := fun σ H Q => ta σ H fun x H1 => ∃ (l : Addr) (xs : List Str), x = .ref l ∧ (SqL K H1 l (xs.map V.str) ∨ SqT K H1 l (xs.map V.str)) ∧ xs.length ≤ 1000 ∧ Q (.int (unlike xs xs.length : Nat)) H1
theorem texts_at : ∀ {xs : List Str} {us : List Value}, Vals (xs.map V.str) us → ∀ (i : Nat) (v : Value), us[i]? = some v → ∃ t, v = Value.str (xs.getD i Str.empty) t
  | [], _, .nil, _, _, h => by simp at h
  | x :: xs, _, .cons r t, 0, v, h => by
    obtain ⟨k, rfl⟩ := r
    obtain rfl := Option.some.inj h
    exact ⟨k, rfl⟩
  | x :: xs, _, .cons r t, i + 1, v, h => texts_at t i v h
theorem pe_lenT {X : Cx} {K : PySem.W.Frag} {a : Expr} {ta : TE} {p p2 q pos : Pos} (hK : X.K = K) (hc : X.calm = true) (hg : Gl X "len") (hm : X.mg "len" = none) (hg2 : Gl X "set") (hm2 : X.mg "set" = none) (ha : PE X a ta)
    (one : starEach [a] X.env = (false, eval a X.env) :: starEach [] X.env := by rfl) : PE X (.Call (.Name "len" p) [.Call (.Name "set" p2) [a] [] q] [] pos) (tLenT K ta) where
  run := fun pins s σ H Q I h => by
    subst hK
    refine Call_ (ld_blt I hg hm boot_len (callWith_builtin1 (args_cons ?_ rfl) rfl rfl))
    refine Call_ (ld_blt I hg2 hm2 boot_set (callWith_type1 (args_cons (thn (ha.run pins s σ H _ I h) fun v s1 ⟨x, H1, I1, r1, got⟩ => args_nil ?_) one) one rfl))
    obtain ⟨l, xs, rfl, sq, few, got⟩ := got
    obtain rfl : v = Value.ref l := r1
    have quiet : X.A.handled = none := I1.ok.hd hc
    have fin : ∀ (us : List Value), Vals (xs.map V.str) us → ∀ (h' : Heap) (tk : Nat), h'.SetOf (PySem.strKind X.prog X.w) s1.heap.objs.size (fun z => (xs.take us.toArray.size).any (· == z)) (unlike xs us.toArray.size) → (∀ b o, b < s1.heap.objs.size → s1.heap.get? b = some o → h'.get? b = some o) →
        wpAny (model X.prog X.w) X.A (spliced (backTo pos (starEach [] X.env))) (fun vs s2 => wpAny (model X.prog X.w) X.A (call (.builtin "len") (Value.ref s1.heap.objs.size :: vs)) (EP X pins σ Q) X.xe s2) X.xe { s1 with heap := h', toks := tk } := fun us r h' tk set kept => by
      have len : us.toArray.size = xs.length := by rw [List.size_toArray, ← r.length, List.length_map]
      rw [len] at set
      obtain ⟨o, es, ep, t, ho, ex, hd, _, _, _, hf, hn⟩ := set
      have J : Inv X pins σ H1 { s1 with heap := h', toks := tk } := I1.kept fun b o e => kept b o (Heap.lt_size e) e
      have small := unlike_le xs xs.length
      exact args_nil (call_len_set ho ex hd hf (by rw [hn] <;> omega) ⟨.int (unlike xs xs.length : Nat), H1, J.tok _, ⟨_, by rw [hn]⟩, got⟩)
    rcases sq with sq | sq
    · obtain ⟨us, r, ⟨o, n, ho, hcl, _, hd⟩, _⟩ := I1.list sq
      have len : xs.length = us.toArray.size := by rw [List.size_toArray, ← r.length, List.length_map]
      exact call_set_texts quiet ho (walked_list hcl hd) (fun i v hv => texts_at r i v (by simpa using hv)) len (by unfold scanBound; omega) fun h' tk set kept => fin us r h' tk set kept
    · obtain ⟨us, r, ⟨o, ho, hcl, n, hd⟩, _⟩ := I1.tuple sq
      have len : xs.length = us.toArray.size := by rw [List.size_toArray, ← r.length, List.length_map]
      exact call_set_texts quiet ho (walked_tuple hcl hd) (fun i v hv => texts_at r i v (by simpa using hv)) len (by unfold scanBound; omega) fun h' tk set kept => fin us r h' tk set kept
end KS
set_option Elab.async false
set_option linter.all false
set_option maxRecDepth 100000
set_option maxHeartbeats 4000000
namespace KU
open PySem PySem.Spec PyProof.Rows L2 NdefX
section
variable {X : Cx} {CX : CXT} {k : Nat} {g q a : Addr} {sp : Sp} {E : XK} {pins : List (Addr × Obj)} {σ : L2.St} {H : Hp} {s : Shared} {Q : VK} {pos : Pos} {e : Expr} {es : List Expr} {t : TA}
/-- a bound method called with what is written, the first thing without a star -/
theorem met_call (ha : PA X (e :: es) t) (F : FnR X.prog X.w X.K X.mg X.base CX k g sp) (hr : Room k X.A) (hx : Passes CX X E) (hf : PySem.W.fnIn X.K g = true) (I : Inv X pins σ H s)
    (h : t σ H fun ws H1 => H1 q = some (.met g a) ∧ sp (.ref a :: ws) H1 Q E) (he : starEach (e :: es) X.env = (false, eval e X.env) :: starEach es X.env) : wpAny (model X.prog X.w) X.A (callWith pos (.ref q) [] (backTo pos (starEach (e :: es) X.env)) []) (EP X pins σ Q) X.xe s := by
  have hh := thn (ha.run pos pins s σ H _ I h) (Q' := fun us s1 => PySem.W.MethP X.K q g (.ref a) s1.heap ∧ wpAny (model X.prog X.w) X.A (call (.ref q) ([] ++ us) []) (EP X pins σ Q) X.xe s1) fun us s1 ⟨ws, H1, I1, rv, hm, hsp⟩ => ⟨met_P I1 hm, wpAny_call (PySem.W.method_call (met_P I1 hm).1 (run_fnR (us := Value.ref a :: us) (vs := V.ref a :: ws) F hr hx I1 (.cons rfl rv) hsp))⟩
  rw [he] at hh ⊢
  have body : wpAny (model X.prog X.w) X.A (evalArgs (.ref q) true (backTo pos ((false, eval e X.env) :: starEach es X.env)) []) (fun z s1 => PySem.W.MethP X.K q g (.ref a) s1.heap ∧ wpAny (model X.prog X.w) X.A (call (.ref q) ([] ++ z.pos) z.kw) (EP X pins σ Q) X.xe s1) X.xe s :=
    Calls.evalArgs_plain hh
  cases hb : (backTo pos ((false, eval e X.env) :: starEach es X.env)).any (·.1) with
  | false => exact callwith_met (by rw [hb]; rfl) hf body
  | true => exact PySem.W.ks_call (P := PySem.W.MethP X.K q g (.ref a)) hb (PySem.W.keeps_M hf) body
end
/-- what the text tells of a method that calls super(): its function's record, its code, its class -/
structure SupF (P : Program) (K : PySem.W.Frag) (F : NF) (D f cc : Addr) (fd : FuncData) : Prop where
  fn : ∃ (oc : Value) (od : Option Addr) (osl : Array (Option Value)), K.lookup f = some ⟨oc, od, .func fd, osl⟩
  fd_ : ∃ (kV doc pm ct : Value) (an : Option Addr), fd = PySem.W.fnX F.name F.qual F.params F.body F.scope F.cl .none kV doc pm an (.ref F.c) ct
  code : PySem.W.codeIn K (.ref F.c) F.qual = true
  file : ∃ (ccl : Value) (cdd : Option Addr) (vs : Array Value) (ccs : Array (Option Value)) (fl : Str) (tf : Tok), K.lookup F.c = some ⟨ccl, cdd, .fields vs, ccs⟩ ∧ vs[2]? = some (.str fl tf) ∧ ((P.main.file : Str) == fl) = true
  cl : F.cl = [(("__class__" : Str), cc)]
  cell : ∃ (cl : Value) (cld : Option Addr) (csl : Array (Option Value)), K.lookup cc = some ⟨cl, cld, .cell (some (.ref D)), csl⟩
  cls : ∃ cdD, PySem.W.clsIn K D = some cdD
  top : (P.main.scope.names.lookup ("super" : Str)).isSome = false
section
variable {CX : CXT} {P : Program} {w : World} {K : PySem.W.Frag} {mg : Str → Option Value} {base : Heap} {N ps : List Str} {F : NF} {f D cc : Addr} {fd : FuncData} {k : Nat} {sp : Sp}
/-- how a body ends, its frame's names as they were -/
def EndF (X : Cx) (pins : List (Addr × Obj)) (σ : L2.St) (Q : VK) (fl : Flow) (s' : Shared) : Prop := match fl with
  | .ret u => EP X pins σ Q u s'
  | .next => ∃ H', Inv X pins σ H' s' ∧ Q .non H'
  | _ => False
/-- a method with the cell __class__: its body at a known place -/
theorem fn_at (T : SupF P K F D f cc fd) (S : NScope N ps ["__class__"] F.scope) (len : ∀ vs H Q E, sp vs H Q E → vs.length = ps.length)
    (hbody : ∀ (A : Around) (outer : List Env) (s : Shared) (H : Hp) (vs : List V) (Q : VK) (E : XK) (s1 : Shared), Room k (A.deeper (envF F f s.heap.objs.size)) → sp vs H Q E → Inv (ncx CX P w K mg base N F f A outer s H E) [] (startF N vs [some (.ref D)]) H s1 →
      _root_.PySem.wpAt (model P w) (A.deeper (envF F f s.heap.objs.size)) (.func F.body (envF F f s.heap.objs.size)) (execs F.body (envF F f s.heap.objs.size)) (EndF (ncx CX P w K mg base N F f A outer s H E) [] (startF N vs [some (.ref D)]) Q) (ncx CX P w K mg base N F f A outer s H E).xe s1) :
    FnOk P w K mg base CX (k + 1) f fd ps sp := by
  refine ⟨len, ?_⟩
  intro A outer s H args us vs Q E hr e0 hb r hsp
  have hl := len _ _ _ _ hsp
  have KX : K.In s.heap := e0.mod.kin.keeps (fun b o z => (e0.bs b o z).left)
  have lim : s.heap.NoLimit := e0.mod.nolimit.keeps (fun b o z => (e0.bs b o z).left)
  obtain ⟨kV, doc, pm, ct, an, rfl⟩ := T.fd_
  obtain ⟨oc, od, osl, lk⟩ := T.fn
  obtain ⟨cl0, cld, csl, lc⟩ := T.cell
  have C : CellsAt F.cl ["__class__"] [some (.ref D)] s.heap H := by
    rw [T.cl]
    have hc : s.heap.get? cc = some ⟨cl0, cld, .cell (some (.ref D)), csl⟩ := KX _ _ lc
    have hn : H cc = none := (e0.bs cc _ (e0.mod.kin _ _ lc)).2
    have look : ∀ y c, List.lookup y [(("__class__" : Str), cc)] = some c → c = cc ∧ y = "__class__" := fun y c e => by
      have m := PySem.mem_of_lookup e
      have := List.mem_singleton.mp m
      cases this
      exact ⟨rfl, rfl⟩
    refine ⟨rfl, fun y c e => ?_, fun x y c e1 e2 => ?_, fun i y e => ?_⟩
    · rw [(look y c e).1]
      exact ⟨hn, _, _, hc, rfl⟩
    · rw [(look x c e1).2, (look y c e2).2]
    · match i, e with
      | 0, e =>
        cases e
        exact ⟨cc, rfl, fun v hv => by cases hv; exact ⟨_, rfl, _, hc, rfl⟩⟩
  refine codeAny_call_function hr.depth (KX _ _ lk) rfl S.co S.gen rfl (PySem.W.codeRec_of KX T.code) (hb _ _ _ _ ?_)
  refine wpAny_newFunctionEnv S.nocell (fun ⟨n, _⟩ hy => S.par n (List.of_mem_zip hy).1) (fun h₁ hns hsb => ⟨lim.fresh _ hsb, ?_⟩) S.kind
  refine (show codeAny _ _ (.func F.body (envF F f s.heap.objs.size)) _ _ from ks_codeAny_funcAt ?_)
  have kp : ∀ b o, s.heap.get? b = some o → h₁.get? b = some o := by
    intro b o z
    exact hsb.extBut b o (Nat.ne_of_lt (Heap.lt_size z)) (Heap.get?_push_of_some _ z)
  have I : Inv (ncx CX P w K mg base N F f A outer s H E) [] (startF N vs [some (.ref D)]) H { s with heap := h₁, toks := s.toks + (ps.zip us).length } := inv_startN S hr.hd e0 hl r C hns kp
  refine ks_wpAt_mono (hbody A outer s H vs Q E _ (hr.deeper _) hsp I) (fun fl s' hs => ?_) fun e s' hs => hs
  have fin : ∀ {H' : Hp} {v : V} {u : Value}, Inv (ncx CX P w K mg base N F f A outer s H E) [] (startF N vs [some (.ref D)]) H' s' → L2.RelV v u → Q v H' → CE outer P w H s Q u s' := by
    intro H' v u J rv q
    exact ⟨v, H', J.os, J.bare, J.base, J.hok, rv, q⟩
  cases fl with
  | ret u =>
    obtain ⟨v, H', J, rv, q⟩ := hs
    exact fin J rv q
  | next =>
    obtain ⟨H', J, q⟩ := hs
    exact fin (v := .non) (u := .none) J rfl q
  | brk => exact False.elim hs
  | cont => exact False.elim hs
end
end KU
set_option Elab.async false
set_option linter.all false
set_option maxRecDepth 100000
set_option maxHeartbeats 4000000
namespace KU
open PySem PySem.Spec PyProof.Rows L2 NdefX
section
variable {CX CX' : CXT} {P : Program} {w : World} {K : PySem.W.Frag} {mg : Str → Option Value} {base : Heap} {N ps : List Str} {F : NF} {f D cc x C dx g : Addr} {fd : FuncData} {k kk : Nat} {sp : Sp}
  {A : Around} {outer : List Env} {s0 s : Shared} {H0 H : Hp} {E E' : XK} {pins : List (Addr × Obj)} {σ : L2.St} {fs : List (Str × V)} {p0 p1 pos apos : Pos} {attr m : Str} {whole : Sem Value} {EE : Value → Shared → Prop}
/-- super() -/
theorem super_obj {Q : Value → Shared → Prop} {ar : Arg} (T : SupF P K F D f cc fd) (S : NScope N ps ["__class__"] F.scope) (hsup : F.scope.names.lookup ("super" : Str) = some .globalImplicit) (hp : (F.params.posonlyargs ++ F.params.args).head? = some ar)
    (hN : N[0]? = some ar.arg) (hka : F.scope.names.lookup ar.arg = some .local) (hm0 : mg "super" = none) (hat : (attr == ("__class__" : Str)) = false) (I : Inv (ncx CX P w K mg base N F f A outer s0 H0 E) pins σ H s) (hσ : σ[0]? = some (some (.ref x))) (hx : H x = some (.ins C dx fs)) (hsub : PySem.W.mroIn K C (.ref D) = some true)
    (h : ∀ so s', s'.heap.get? so = some (PySem.W.ks_superObj D x C) → Inv (ncx CX P w K mg base N F f A outer s0 H0 E) pins σ H s' → Q (.ref so) s') :
    _root_.PySem.wpAt (model P w) (ncx CX P w K mg base N F f A outer s0 H0 E).A (.func F.body (envF F f s0.heap.objs.size)) (attributeBase (.Call (.Name "super" p0) [] [] p1) attr (envF F f s0.heap.objs.size) whole) Q EE s := by
  obtain ⟨kV, doc, pm, ct, an, rfl⟩ := T.fd_
  obtain ⟨oc, od, osl, lk⟩ := T.fn
  obtain ⟨cl0, cld, csl, lc⟩ := T.cell
  obtain ⟨ccl, cdd, vs, ccs, fl, tf, lf, hvs, hfile⟩ := T.file
  obtain ⟨cdD, hD⟩ := T.cls
  have XK : K.In s.heap := I.kIn
  have hkc : F.scope.names.lookup ("__class__" : Str) = some .free := S.frk _ (List.mem_singleton.mpr rfl)
  obtain ⟨m1, hns, hl⟩ := I.loc
  obtain ⟨u, ru, lu⟩ := hl 0 ar.arg (.ref x) hN hσ (.inl hka)
  obtain rfl : u = Value.ref x := ru
  have hv : m1 ar.arg = some (.ref x) := by
    rcases lu with ⟨_, hm⟩ | ⟨hk, _⟩
    · exact hm
    · have hk : F.scope.names.lookup ar.arg = some .cell ∨ F.scope.names.lookup ar.arg = some .free := hk
      rw [hka] at hk
      rcases hk with z | z <;> cases z
  obtain ⟨oD, hD1, hD2⟩ : ∃ oD, s.heap.get? D = some oD ∧ oD.data = .cls cdD := by
    unfold PySem.W.clsIn at hD
    split at hD
    · rename_i c d cd' sl ho
      cases hD
      exact ⟨_, XK _ _ ho, rfl⟩
    · cases hD
  obtain ⟨mA, O, _⟩ := ins_get I.hok hx
  obtain ⟨odx, J, _⟩ := O.look
  obtain ⟨mb, b1, b2⟩ := I.mod.blt
  have hcl : (envF F f s0.heap.objs.size).cells.lookup ("__class__" : Str) = some cc := by
    show F.cl.lookup _ = _
    rw [T.cl]
    rfl
  obtain ⟨h1, h2, h3, t, h4⟩ := s
  refine ks_wpAt_super_base (env := envF F f s0.heap.objs.size) hsup hkc hat rfl (XK _ _ lk) rfl hp rfl (XK _ _ lf) rfl hvs hfile T.top ?_
  refine PySem.W.ks_loadName_global (x := "super") S.kind hsup (Calls.loadGlobal_builtin (env := envF F f s0.heap.objs.size) (I.mod.glob.keeps I.bk) hm0 (b1.keeps I.bk) ((b2 _ (by decide +kernel)).trans (by rfl)) ⟨rfl, ?_⟩)
  refine wpAny_loadName_free S.kind hkc hcl ⟨_, XK _ _ lc, rfl⟩ ?_
  refine wpAny_loadName_local S.kind hka hns hv ?_
  refine ks_wpAny_isType_cls hD1 hD2 (And.intro rfl ?_)
  refine ks_wpAny_call_super hD1 hD2 J.at_ J.cls (fun c e => ?_) (PySem.W.looks_mroIn XK hsub) (fun h' e k => ?_)
  · have := J.no
    unfold PySem.W.notCls at this
    rw [e] at this
    exact Bool.noConfusion this
  · exact h _ _ e (I.kept (t' := t) k)
end
end KU
set_option Elab.async false
set_option linter.all false
set_option maxRecDepth 100000
set_option maxHeartbeats 4000000
namespace KU
open PySem PySem.Spec PyProof.Rows L2 NdefX
section
variable {X : Cx} {pins : List (Addr × Obj)} {σ : L2.St} {H : Hp} {s : Shared} {so x C D g dx : Addr} {fs : List (Str × V)} {m : Str} {A : Around} {E : Value → Shared → Prop} {pl : Sem Bool}
/-- what stands where a method is looked up behind super() -/
structure SupM (K : PySem.W.Frag) (C D : Addr) (m : Str) (g : Addr) : Prop where
  any : PySem.W.nsIn K cStatics "thirdparty.any" = some none
  at_ : PySem.W.ks_superIn K C D m = some (some (.ref g))
  ty : PySem.W.typeIn K (.ref g) = some (.type "function")
  nc : (m == ("__class__" : Str)) = false
  sub : PySem.W.mroIn K C (.ref D) = some true
  fi : PySem.W.fnIn K g = true
/-- the words for it -/
theorem SupM.look (M : SupM X.K C D m g) (I : Inv X pins σ H s) (hx : H x = some (.ins C dx fs)) : ∃ (cd : ClassData) (of : Obj), PySem.W.Looks (model X.prog X.w) s.heap (mroOf (.ref C)) cd.mro ∧ PySem.W.alongIn X.K m ((cd.mro.dropWhile (· != .ref D)).drop 1) = some (some (.ref g)) ∧ s.heap.get? g = some of ∧ of.cls = .type "function" ∧ x ≠ C := by
  have XK := I.kIn
  obtain ⟨mA, O, _⟩ := ins_get I.hok hx
  obtain ⟨odx, J, _⟩ := O.look
  have hm := M.at_
  unfold PySem.W.ks_superIn at hm
  cases hc : PySem.W.clsIn X.K C with
  | none => rw [hc] at hm; cases hm
  | some cd =>
    rw [hc] at hm
    obtain ⟨of, hof, hofc⟩ : ∃ of, s.heap.get? g = some of ∧ of.cls = .type "function" := by
      have ht : (X.K.lookup g).map (·.cls) = some (.type "function") := M.ty
      cases z : X.K.lookup g with
      | none => rw [z] at ht; cases ht
      | some of => rw [z] at ht; exact ⟨of, XK _ _ z, Option.some.inj ht⟩
    exact ⟨cd, of, fun A Q E s k q => wpAny_bind ((PySem.W.looks_clsIn XK hc) A _ E s k (wpAny_pure q)), hm, hof, hofc, PySem.W.ks_ne XK J hc⟩
/-- super().m, to be called -/
theorem super_meth {Q : Value × List Value → Shared → Prop} (M : SupM X.K C D m g) (I : Inv X pins σ H s) (hso : s.heap.get? so = some (PySem.W.ks_superObj D x C)) (hx : H x = some (.ins C dx fs))
    (h : ∀ q s', H q = none → Inv X pins σ (upd H q (.met g x)) s' → Q (.ref q, []) s') : wpAny (model X.prog X.w) A (getMethod (.ref so) m pl) Q E s := by
  obtain ⟨cd, of, h1, h2, h3, h4, h5⟩ := M.look I hx
  have XK := I.kIn
  have fr := I.hok.fresh (Nat.le_refl s.heap.objs.size)
  have I2 := I.laid (h' := s.heap.push (PySem.W.methodObj (.ref g) (.ref x))) (t' := s.toks + 1) (a := s.heap.objs.size) (o := .met g x) (fun b u z => Heap.get?_push_of_some _ z) (Nat.le_refl _)
    (show (s.heap.push (PySem.W.methodObj (.ref g) (.ref x))).get? s.heap.objs.size = some (PySem.W.methodObj (.ref g) (.ref x)) from Heap.get?_push_size s.heap rfl)
  obtain ⟨hh, g1, g2, t, g3⟩ := s
  exact ks_wpAny_getMethod_super hso (PySem.W.looks_opaque XK M.any) h1 rfl XK h2 h3 h4 h5 M.nc (h _ _ fr I2)
/-- super().m, as a value -/
theorem super_attr {Q : Value → Shared → Prop} (M : SupM X.K C D m g) (I : Inv X pins σ H s) (hso : s.heap.get? so = some (PySem.W.ks_superObj D x C)) (hx : H x = some (.ins C dx fs))
    (h : ∀ q s', H q = none → Inv X pins σ (upd H q (.met g x)) s' → Q (.ref q) s') : wpAny (model X.prog X.w) A (getAttr (.ref so) m true) Q E s := by
  obtain ⟨cd, of, h1, h2, h3, h4, h5⟩ := M.look I hx
  have XK := I.kIn
  have fr := I.hok.fresh (Nat.le_refl s.heap.objs.size)
  have I2 := I.laid (h' := s.heap.push (PySem.W.methodObj (.ref g) (.ref x))) (t' := s.toks + 1) (a := s.heap.objs.size) (o := .met g x) (fun b u z => Heap.get?_push_of_some _ z) (Nat.le_refl _)
    (show (s.heap.push (PySem.W.methodObj (.ref g) (.ref x))).get? s.heap.objs.size = some (PySem.W.methodObj (.ref g) (.ref x)) from Heap.get?_push_size s.heap rfl)
  obtain ⟨hh, g1, g2, t, g3⟩ := s
  have ty : ∀ n, (⟨hh, g1, g2, n, g3⟩ : Shared).TypeIs (.ref so) "super" := fun _ => ⟨_, hso, rfl⟩
  have slot := F.ks_slot_super_ga.lookup
  unfold getAttr getAttrBy
  refine wpAny_bind (wpAny_mkText (wpAny_holding (wpAny_bind (wpAny_typeOf (ty _) (wpAny_bind (wpAny_of_eq slot ?own))))))
  case own =>
  show wpAny _ _ (getAttrByItsOwn (.ref so) (.str m t) (.type "super") (.builtin "super.__getattribute__") true _) _ _ _
  unfold getAttrByItsOwn
  unfold hookBefore
  unfold callGetattribute
  unfold boundAndCalled
  refine wpAny_bind (wpAny_of_eq (by first | rfl | exact (show (if onTheHeap (.type "super") then typeLookup (.type "super") "__getattr__" else pure none) = pure none from rfl)) ?_)
  refine wpAny_bind (wpAny_attempt (wpAny_holding (wpAny_bind (wpAny_of_eq (F.ks_slot_super_ga.bind _) ?_))))
  refine wpAny_mono (Q := fun v s2 => v = .ref hh.objs.size ∧ s2 = ⟨hh.push (PySem.W.methodObj (.ref g) (.ref x)), g1, g2, t + 1, g3⟩) (E := fun _ _ => False) (wpAny_call_entry F.ks_slot_super_ga (ty _) F.ks_entry_super_ga (ks_wpAny_super_ga hso (PySem.W.looks_opaque XK M.any) h1 rfl XK h2 h3 h4 h5 M.nc ⟨_, rfl, rfl, rfl⟩) (F.ks_gaArgs_super _ _)) (fun v s2 hv => ?_) fun _ _ z => z.elim
  obtain ⟨rfl, rfl⟩ := hv
  first | exact wpAny_pure (h _ _ fr I2) | exact wpAny_pure (wpAny_pure (h _ _ fr I2))
end
end KU
set_option Elab.async false
set_option linter.all false
set_option maxRecDepth 100000
set_option maxHeartbeats 4000000
namespace KU
open PySem PySem.Spec PyProof.Rows L2 NdefX
section
variable {CX CX' : CXT} {P : Program} {w : World} {K : PySem.W.Frag} {mg : Str → Option Value} {base : Heap} {N ps : List Str} {F : NF} {f D cc g : Addr} {fd : FuncData} {k : Nat} {sp sp' : Sp}
  {p0 p1 pos apos rp : Pos} {m : Str} {e : Expr} {es : List Expr} {t : TA} {ar : Arg} {pl : Sem Bool} {E' : XK → XK}
/-- def m(self, ..): return super().m(..) -/
theorem fn_super (T : SupF P K F D f cc fd) (S : NScope N ps ["__class__"] F.scope) (hbody : F.body = [.Return (some (.Call (.Attribute (.Call (.Name "super" p0) [] [] p1) m apos) (e :: es) [] pos)) rp])
    (hsup : F.scope.names.lookup ("super" : Str) = some .globalImplicit) (hp : (F.params.posonlyargs ++ F.params.args).head? = some ar) (hN : N[0]? = some ar.arg) (hka : F.scope.names.lookup ar.arg = some .local) (hm0 : mg "super" = none)
    (he : ∀ L, eval (.Call (.Attribute (.Call (.Name "super" p0) [] [] p1) m apos) (e :: es) [] pos) (envF F f L) = (do
      let ov ← attributeBase (.Call (.Name "super" p0) [] [] p1) m (envF F f L) (eval (.Call (.Name "super" p0) [] [] p1) (envF F f L))
      standAt apos.atName
      let (f', first) ← holding [ov] (getMethod ov m pl)
      callWith pos f' first (backTo pos (starEach (e :: es) (envF F f L))) []))
    (ha : ∀ A outer s H E, PA (ncx CX P w K mg base N F f A outer s H E) (e :: es) t) (hst : ∀ L, starEach (e :: es) (envF F f L) = (false, eval e (envF F f L)) :: starEach es (envF F f L))
    (FR : FnR P w K mg base CX' k g sp') (hx : ∀ A outer s H E, Passes CX' (ncx CX P w K mg base N F f A outer s H E) (E' E))
    (want : ∀ vs H Q E, sp vs H Q E → vs.length = ps.length ∧ ∃ x C dx fs, vs[0]? = some (.ref x) ∧ H x = some (.ins C dx fs) ∧ SupM K C D m g ∧ ∀ q, H q = none → t (startF N vs [some (.ref D)]) (upd H q (.met g x)) fun ws H1 => H1 q = some (.met g x) ∧ sp' (.ref x :: ws) H1 Q (E' E)) :
    FnOk P w K mg base CX (k + 1) f fd ps sp := by
  refine fn_at T S (fun vs H Q E h => (want vs H Q E h).1) fun A outer s H vs Q E s1 hr hsp I => ?_
  obtain ⟨_, x, C, dx, fs, h0, hi, M, ht⟩ := want _ _ _ _ hsp
  have hσ : (startF N vs [some (.ref D)])[0]? = some (some (.ref x)) := by
    cases vs with
    | nil => cases h0
    | cons v r =>
      cases h0
      rfl
  have eb : execs F.body (envF F f s.heap.objs.size) = execs [.Return (some (.Call (.Attribute (.Call (.Name "super" p0) [] [] p1) m apos) (e :: es) [] pos)) rp] (envF F f s.heap.objs.size) := by rw [hbody]
  rw [eb]
  refine ks_wpAt_execs_cons (ks_wpAt_Return_some (ks_wpAt_MethodCall (pl := pl) ?_ (he _)))
  refine super_obj T S hsup hp hN hka hm0 M.nc I hσ hi M.sub fun so s2 hso I2 => super_meth M I2 hso hi fun q s3 hq I3 => ?_
  exact met_call (ha A outer s H E) FR hr (hx A outer s H E) M.fi I3 (ht q hq) (hst _)
end
section
variable {CX CX' : CXT} {P : Program} {w : World} {K : PySem.W.Frag} {mg : Str → Option Value} {base : Heap} {N ps : List Str} {F : NF} {f D cc g : Addr} {fd : FuncData} {k : Nat} {sp sp' : Sp}
  {p0 p1 p2 pos apos rp : Pos} {m : Str} {e1 e2 : Expr} {t : TA} {ar : Arg} {E' : XK → XK}
/-- def m(self, ..): super().m(x, *y) -/
theorem fn_superS (T : SupF P K F D f cc fd) (S : NScope N ps ["__class__"] F.scope) (hbody : F.body = [.Expr (.Call (.Attribute (.Call (.Name "super" p0) [] [] p1) m apos) [e1, .Starred e2 p2] [] pos) rp])
    (hsup : F.scope.names.lookup ("super" : Str) = some .globalImplicit) (hp : (F.params.posonlyargs ++ F.params.args).head? = some ar) (hN : N[0]? = some ar.arg) (hka : F.scope.names.lookup ar.arg = some .local) (hm0 : mg "super" = none)
    (hsw : ∀ L, swapsWith (.Call (.Attribute (.Call (.Name "super" p0) [] [] p1) m apos) [e1, .Starred e2 p2] [] pos) none rp.line (envF F f L) = pure false) (hia : ∀ L, interactive (envF F f L) = false)
    (ha : ∀ A outer s H E, PA (ncx CX P w K mg base N F f A outer s H E) [e1, .Starred e2 p2] t) (hst : ∀ L, starEach [e1, .Starred e2 p2] (envF F f L) = [(false, eval e1 (envF F f L)), (true, eval e2 (envF F f L))])
    (FR : FnR P w K mg base CX' k g sp') (hx : ∀ A outer s H E, Passes CX' (ncx CX P w K mg base N F f A outer s H E) (E' E))
    (want : ∀ vs H Q E, sp vs H Q E → vs.length = ps.length ∧ ∃ x C dx fs, vs[0]? = some (.ref x) ∧ H x = some (.ins C dx fs) ∧ SupM K C D m g ∧ ∀ q, H q = none → t (startF N vs [some (.ref D)]) (upd H q (.met g x)) fun ws H1 => H1 q = some (.met g x) ∧ sp' (.ref x :: ws) H1 (fun _ H2 => Q .non H2) (E' E)) :
    FnOk P w K mg base CX (k + 1) f fd ps sp := by
  refine fn_at T S (fun vs H Q E h => (want vs H Q E h).1) fun A outer s H vs Q E s1 hr hsp I => ?_
  obtain ⟨_, x, C, dx, fs, h0, hi, M, ht⟩ := want _ _ _ _ hsp
  have hσ : (startF N vs [some (.ref D)])[0]? = some (some (.ref x)) := by
    cases vs with
    | nil => cases h0
    | cons v r =>
      cases h0
      rfl
  have eb : execs F.body (envF F f s.heap.objs.size) = execs [.Expr (.Call (.Attribute (.Call (.Name "super" p0) [] [] p1) m apos) [e1, .Starred e2 p2] [] pos) rp] (envF F f s.heap.objs.size) := by rw [hbody]
  rw [eb]
  refine ks_wpAt_execs_cons (ks_wpAt_Expr_any ?_ (hia _) (hsw _))
  rw [arm_eval_Call]
  refine PySem.wpAt_bind (ks_wpAt_mono (super_obj T S hsup hp hN hka hm0 M.nc I hσ hi M.sub (Q := fun ov s2 => ∃ so, ov = .ref so ∧ s2.heap.get? so = some (PySem.W.ks_superObj D x C) ∧ Inv (ncx CX P w K mg base N F f A outer s H E) [] (startF N vs [some (.ref D)]) H s2) fun so s2 hso I2 => ⟨so, rfl, hso, I2⟩) (fun ov s2 got => ?_) fun _ _ z => z)
  obtain ⟨so, rfl, hso, I2⟩ := got
  refine PySem.wpAt_of_wpAny (wpAny_bind (wpAny_standAt ?_))
  have call_ : ∀ q s3, H q = none → Inv (ncx CX P w K mg base N F f A outer s H E) [] (startF N vs [some (.ref D)]) (upd H q (.met g x)) s3 → wpAny (model P w) (A.deeper (envF F f s.heap.objs.size)) (callWith pos (.ref q) [] (backTo pos [(false, eval e1 (envF F f s.heap.objs.size)), (true, eval e2 (envF F f s.heap.objs.size))]) [])
      (EP (ncx CX P w K mg base N F f A outer s H E) [] (startF N vs [some (.ref D)]) fun _ H2 => Q .non H2) (ncx CX P w K mg base N F f A outer s H E).xe s3 := fun q s3 hq I3 => by
    have := met_call (pos := pos) (X := ncx CX P w K mg base N F f A outer s H E) (ha A outer s H E) FR hr (hx A outer s H E) M.fi I3 (ht q hq) (hst _)
    rw [show starEach [e1, .Starred e2 p2] (ncx CX P w K mg base N F f A outer s H E).env = _ from hst _] at this
    exact this
  have form : methodCallForm ([e1, Expr.Starred e2 p2].length + ([] : List Keyword).length) (backTo pos [(false, eval e1 (envF F f s.heap.objs.size)), (true, eval e2 (envF F f s.heap.objs.size))]) [] = false := rfl
  have kws : backToKw pos (keywordEach [] (envF F f s.heap.objs.size)) = [] := rfl
  rw [hst, kws]
  unfold methodCall
  rw [form]
  have cal : calleeOf false (.Call (.Name "super" p0) [] [] p1) (envF F f s.heap.objs.size) (.ref so) m = (getAttr (.ref so) m true >>= fun v => pure (v, [])) := rfl
  have cpos : methodCallPos false (.Call (.Name "super" p0) [] [] p1) (envF F f s.heap.objs.size) apos pos = pure pos := rfl
  rw [cal, cpos]
  refine wpAny_bind (wpAny_holding (wpAny_bind (super_attr M I2 hso hi fun q s3 hq I3 => wpAny_pure ?_)))
  refine wpAny_bind (wpAny_pure (show _ from ?_))
  refine wpAny_mono (call_ q s3 hq I3) (fun u s4 got => ?_) fun _ _ z => z
  obtain ⟨v, H4, I4, _, hq4⟩ := got
  exact fun _ _ _ _ => ⟨H4, I4, hq4⟩
end
end KU
set_option Elab.async false
set_option linter.all false
set_option maxRecDepth 100000
set_option maxHeartbeats 4000000
namespace KU
open PySem PySem.Spec PyProof.Rows L2 NdefX
theorem vals_split : ∀ {xs ys : List V} {us : List Value}, Vals (xs ++ ys) us → ∃ u1 u2, us = u1 ++ u2 ∧ Vals xs u1 ∧ Vals ys u2
  | [], ys, us, h => ⟨[], us, rfl, .nil, h⟩
  | x :: xs, ys, us, h => by
    cases h with
    | cons hx hr =>
      obtain ⟨u1, u2, rfl, h1, h2⟩ := vals_split (xs := xs) hr
      exact ⟨_ :: u1, u2, rfl, .cons hx h1, h2⟩
/-- how a body ends -/
def EndG (X : Cx) (pins : List (Addr × Obj)) (Q : VK) (fl : Flow) (s' : Shared) : Prop := match fl with
  | .ret u => ∃ v σ H', Inv X pins σ H' s' ∧ RelV v u ∧ Q v H'
  | .next => ∃ σ H', Inv X pins σ H' s' ∧ Q .non H'
  | _ => False
section
variable {CX : CXT} {P : Program} {w : World} {K : PySem.W.Frag} {mg : Str → Option Value} {base : Heap} {N as fr : List Str} {pv : Str} {ws : List (Option V)} {F : NF} {f : Addr} {fd : FuncData} {k nmax : Nat} {sp : Sp}
  {oc dV kV doc pm ct : Value} {od an : Option Addr} {osl : Array (Option Value)}
/-- def f(a, .., *r), with cells or without: its body at a known place. The star's tuple is laid at the call -/
theorem fn_atV (lk : K.lookup f = some ⟨oc, od, .func fd, osl⟩) (hfd : fd = PySem.W.fnX F.name F.qual F.params F.body F.scope F.cl dV kV doc pm an (.ref F.c) ct) (hcd : PySem.W.codeIn K (.ref F.c) F.qual = true) (S : NScope N (as ++ [pv]) fr F.scope)
    (cells : ∀ (s : Shared) (H : Hp), K.In s.heap → (∀ b o, K.lookup b = some o → H b = none) → CellsAt F.cl fr ws s.heap H) (hz : nmax ≤ sizeLine)
    (hb : ∀ us rest : List Value, us.length = as.length → rest.length ≤ nmax → bindArgs fd ⟨us ++ rest, []⟩ = (newTuple rest >>= fun t => pure ((as ++ [pv]).zip (us ++ [t])))) (hCX : CXNew CX)
    (hbody : ∀ (A : Around) (outer : List Env) (s : Shared) (H : Hp) (vs : List V) (Q : VK) (E : XK) (s1 : Shared), Room k (A.deeper (envF F f s.heap.objs.size)) → sp vs H Q E → Inv (ncx CX P w K mg base N F f A outer s H E) [] (startF N vs ws) H s1 →
      _root_.PySem.wpAt (model P w) (A.deeper (envF F f s.heap.objs.size)) (.func F.body (envF F f s.heap.objs.size)) (execs F.body (envF F f s.heap.objs.size)) (EndG (ncx CX P w K mg base N F f A outer s H E) [] Q) (ncx CX P w K mg base N F f A outer s H E).xe s1) :
    FnR P w K mg base CX (k + 1) f (fun vs H Q E => ∃ xs rest, vs = xs ++ rest ∧ xs.length = as.length ∧ rest.length ≤ nmax ∧ ∀ p, H p = none → sp (xs ++ [.ref p]) (upd H p (.tup rest)) Q E) := by
  intro A outer s H us0 vs Q E hr e0 r hsp
  obtain ⟨xs, rest, rfl, hx, hl, hq⟩ := hsp
  obtain ⟨us, ur, rfl, r1, r2⟩ := vals_split r
  have lus : us.length = as.length := by rw [← r1.length]; exact hx
  have lur : ur.length ≤ nmax := by rw [← r2.length]; exact hl
  have keepsK : K.In s.heap := e0.mod.kin.keeps (fun b o z => (e0.bs b o z).left)
  have new0 : H s.heap.objs.size = none := e0.hok.fresh (Nat.le_refl _)
  have want := hq _ new0
  subst hfd
  refine codeAny_call_function hr.depth (keepsK _ _ lk) rfl S.co S.gen rfl (PySem.W.codeRec_of keepsK hcd) ?_
  rw [hb us ur lus lur]
  refine wpAny_bind (wpAny_newTuple ?_ (Nat.le_trans lur hz))
  obtain ⟨h2, e2⟩ : ∃ h2, h2 = s.heap.push ({ cls := .type "tuple", data := .seq ur.toArray } : Obj) := ⟨_, rfl⟩
  rw [← e2]
  have kp : ∀ b o, s.heap.get? b = some o → h2.get? b = some o := by
    intro b o z
    rw [e2]
    exact Heap.get?_push_of_some _ z
  have at2 : h2.get? s.heap.objs.size = some ({ cls := .type "tuple", data := .seq ur.toArray } : Obj) := by
    rw [e2]
    exact Heap.get?_push_size _ rfl
  have sz2 : s.heap.objs.size ≤ h2.objs.size := by
    rw [e2, Heap.size_push]
    exact Nat.le_succ _
  have ok2 : HOk P w (upd H s.heap.objs.size (.tup rest)) h2 := e0.hok.laid kp (Nat.le_refl _) ⟨Nat.le_trans hl hz, ur, r2, ⟨_, at2, rfl, _, rfl⟩⟩
  have un2 : Un (frs outer) [] H (upd H s.heap.objs.size (.tup rest)) s.heap h2 := Un.laid kp (Nat.le_refl _) new0
  have env2 : Env0 P w K mg base A outer { s with heap := h2 } (upd H s.heap.objs.size (.tup rest)) := by
    refine ⟨e0.frames, e0.mod, ?_, Nat.le_trans e0.bsz sz2, Heap.FunFrames.of_keeps (fun b o z _ => ⟨o, kp b o z, rfl⟩) e0.funs, ?_, ok2, e0.bare⟩
    · intro b o z
      have old := e0.bs b o z
      exact ⟨kp b o old.1, by rw [upd_ne (Nat.ne_of_lt (Heap.lt_size old.1))]; exact old.2⟩
    · intro b z
      obtain ⟨_, o, ho, _⟩ := e0.funs.mem z
      rw [upd_ne (Nat.ne_of_lt (Heap.lt_size ho))]
      exact e0.frf b z
  have keeps2 : K.In h2 := env2.mod.kin.keeps (fun b o z => (env2.bs b o z).left)
  have lim2 : h2.NoLimit := env2.mod.nolimit.keeps (fun b o z => (env2.bs b o z).left)
  have rel2 : Vals (xs ++ [.ref s.heap.objs.size]) (us ++ [.ref s.heap.objs.size]) := r1.append (.cons rfl .nil)
  have C := cells { s with heap := h2 } (upd H s.heap.objs.size (.tup rest)) keeps2 fun b o z => (env2.bs b o (env2.mod.kin _ _ z)).right
  refine wpAny_pure ?_
  refine wpAny_newFunctionEnv (s := { s with heap := h2 }) S.nocell ?_ ?_ S.kind
  · intro y hy
    exact S.par y.1 (List.of_mem_zip hy).1
  intro h3 hns hsb
  refine ⟨lim2.fresh _ hsb, ?_⟩
  refine (show codeAny _ _ (.func F.body (envF F f h2.objs.size)) _ _ from ks_codeAny_funcAt ?_)
  have kp3 : ∀ b o, h2.get? b = some o → h3.get? b = some o := by
    intro b o z
    exact hsb.extBut b o (Nat.ne_of_lt (Heap.lt_size z)) (Heap.get?_push_of_some _ z)
  have I := inv_startN (f := f) (CX := CX) (E := E) (tk := s.toks + ((as ++ [pv]).zip (us ++ [.ref s.heap.objs.size])).length) S hr.hd env2 (by rw [List.length_append, List.length_append, hx] <;> rfl) rel2 C hns kp3
  have run := hbody A outer { s with heap := h2 } (upd H s.heap.objs.size (.tup rest)) (xs ++ [.ref s.heap.objs.size]) Q E _ (hr.deeper _) want I
  refine ks_wpAt_mono run (fun fl s' hs => ?_) fun e s' hs => ?_
  · have fin : ∀ {σ' : L2.St} {H' : Hp} {v : V} {u : Value}, Inv (ncx CX P w K mg base N F f A outer { s with heap := h2 } (upd H s.heap.objs.size (.tup rest)) E) [] σ' H' s' → L2.RelV v u → Q v H' → CE outer P w H s Q u s' := by
      intro σ' H' v u J rv q
      exact ⟨v, H', J.os, J.bare, un2.trans J.base, J.hok, rv, q⟩
    cases fl with
    | ret u =>
      obtain ⟨v, σ', H', J, rv, q⟩ := hs
      exact fin J rv q
    | next =>
      obtain ⟨σ', H', J, q⟩ := hs
      exact fin (v := .non) (u := .none) J rfl q
    | brk => exact False.elim hs
    | cont => exact False.elim hs
  · refine wpAny_mono hs ?_ ?_
    · intro _ s2 z
      exact hCX outer s H h2 _ rest E e s2 kp (Nat.le_refl _) new0 z
    · intro e' s2 z
      exact hCX outer s H h2 _ rest E e' s2 kp (Nat.le_refl _) new0 z
end
end KU
set_option Elab.async false
set_option linter.all false
set_option maxRecDepth 100000
set_option maxHeartbeats 4000000
namespace KU
open PySem PySem.Spec PyProof.Rows L2 NdefX
section
variable {CX CX' : CXT} {P : Program} {w : World} {K : PySem.W.Frag} {mg : Str → Option Value} {base : Heap} {N ps : List Str} {F : NF} {f D cc g x C dx : Addr} {fs : List (Str × V)} {fd : FuncData} {k kk : Nat} {sp sp' : Sp}
  {p0 p1 p2 pos apos rp : Pos} {m : Str} {e1 e2 : Expr} {t : TA} {ar : Arg} {E E' : XK} {A : Around} {outer : List Env} {s s1 : Shared} {H H1 : Hp} {σ : L2.St} {Q : VK}
/-- super().m(x, *y) as a statement, at its place -/
theorem super_execS (T : SupF P K F D f cc fd) (S : NScope N ps ["__class__"] F.scope) (hbody : F.body = [.Expr (.Call (.Attribute (.Call (.Name "super" p0) [] [] p1) m apos) [e1, .Starred e2 p2] [] pos) rp])
    (hsup : F.scope.names.lookup ("super" : Str) = some .globalImplicit) (hp : (F.params.posonlyargs ++ F.params.args).head? = some ar) (hN : N[0]? = some ar.arg) (hka : F.scope.names.lookup ar.arg = some .local) (hm0 : mg "super" = none)
    (hsw : ∀ L, swapsWith (.Call (.Attribute (.Call (.Name "super" p0) [] [] p1) m apos) [e1, .Starred e2 p2] [] pos) none rp.line (envF F f L) = pure false) (hia : ∀ L, interactive (envF F f L) = false)
    (ha : PA (ncx CX P w K mg base N F f A outer s H E) [e1, .Starred e2 p2] t) (hst : ∀ L, starEach [e1, .Starred e2 p2] (envF F f L) = [(false, eval e1 (envF F f L)), (true, eval e2 (envF F f L))])
    (FR : FnR P w K mg base CX' kk g sp') (hx : Passes CX' (ncx CX P w K mg base N F f A outer s H E) E') (hr : Room kk (A.deeper (envF F f s.heap.objs.size)))
    (I : Inv (ncx CX P w K mg base N F f A outer s H E) [] σ H1 s1) (hσ : σ[0]? = some (some (.ref x))) (hi : H1 x = some (.ins C dx fs)) (M : SupM K C D m g)
    (ht : ∀ q, H1 q = none → t σ (upd H1 q (.met g x)) fun ws H2 => H2 q = some (.met g x) ∧ sp' (.ref x :: ws) H2 (fun _ H3 => Q .non H3) E') :
    _root_.PySem.wpAt (model P w) (A.deeper (envF F f s.heap.objs.size)) (.func F.body (envF F f s.heap.objs.size)) (execs F.body (envF F f s.heap.objs.size)) (EndF (ncx CX P w K mg base N F f A outer s H E) [] σ Q) (ncx CX P w K mg base N F f A outer s H E).xe s1 := by
  have eb : execs F.body (envF F f s.heap.objs.size) = execs [.Expr (.Call (.Attribute (.Call (.Name "super" p0) [] [] p1) m apos) [e1, .Starred e2 p2] [] pos) rp] (envF F f s.heap.objs.size) := by rw [hbody]
  rw [eb]
  refine ks_wpAt_execs_cons (ks_wpAt_Expr_any ?_ (hia _) (hsw _))
  rw [arm_eval_Call]
  refine PySem.wpAt_bind (ks_wpAt_mono (super_obj T S hsup hp hN hka hm0 M.nc I hσ hi M.sub (Q := fun ov s2 => ∃ so, ov = .ref so ∧ s2.heap.get? so = some (PySem.W.ks_superObj D x C) ∧ Inv (ncx CX P w K mg base N F f A outer s H E) [] (σ) H1 s2) fun so s2 hso I2 => ⟨so, rfl, hso, I2⟩) (fun ov s2 got => ?_) fun _ _ z => z)
  obtain ⟨so, rfl, hso, I2⟩ := got
  refine PySem.wpAt_of_wpAny (wpAny_bind (wpAny_standAt ?_))
  have call_ : ∀ q s3, H1 q = none → Inv (ncx CX P w K mg base N F f A outer s H E) [] (σ) (upd H1 q (.met g x)) s3 → wpAny (model P w) (A.deeper (envF F f s.heap.objs.size)) (callWith pos (.ref q) [] (backTo pos [(false, eval e1 (envF F f s.heap.objs.size)), (true, eval e2 (envF F f s.heap.objs.size))]) [])
      (EP (ncx CX P w K mg base N F f A outer s H E) [] (σ) fun _ H2 => Q .non H2) (ncx CX P w K mg base N F f A outer s H E).xe s3 := fun q s3 hq I3 => by
    have := met_call (pos := pos) (X := ncx CX P w K mg base N F f A outer s H E) ha FR hr hx M.fi I3 (ht q hq) (hst _)
    rw [show starEach [e1, .Starred e2 p2] (ncx CX P w K mg base N F f A outer s H E).env = _ from hst _] at this
    exact this
  have form : methodCallForm ([e1, Expr.Starred e2 p2].length + ([] : List Keyword).length) (backTo pos [(false, eval e1 (envF F f s.heap.objs.size)), (true, eval e2 (envF F f s.heap.objs.size))]) [] = false := rfl
  have kws : backToKw pos (keywordEach [] (envF F f s.heap.objs.size)) = [] := rfl
  rw [hst, kws]
  unfold methodCall
  rw [form]
  have cal : calleeOf false (.Call (.Name "super" p0) [] [] p1) (envF F f s.heap.objs.size) (.ref so) m = (getAttr (.ref so) m true >>= fun v => pure (v, [])) := rfl
  have cpos : methodCallPos false (.Call (.Name "super" p0) [] [] p1) (envF F f s.heap.objs.size) apos pos = pure pos := rfl
  rw [cal, cpos]
  refine wpAny_bind (wpAny_holding (wpAny_bind (super_attr M I2 hso hi fun q s3 hq I3 => wpAny_pure ?_)))
  refine wpAny_bind (wpAny_pure (show _ from ?_))
  refine wpAny_mono (call_ q s3 hq I3) (fun u s4 got => ?_) fun _ _ z => z
  obtain ⟨v, H4, I4, _, hq4⟩ := got
  exact fun _ _ _ _ => ⟨H4, I4, hq4⟩
end
theorem EndF.g {X : Cx} {pins : List (Addr × Obj)} {σ : L2.St} {Q : VK} {fl : Flow} {s' : Shared} (h : EndF X pins σ Q fl s') : EndG X pins Q fl s' := by
  cases fl with
  | ret u =>
    obtain ⟨v, H', I, r, q⟩ := h
    exact ⟨v, σ, H', I, r, q⟩
  | next =>
    obtain ⟨H', I, q⟩ := h
    exact ⟨σ, H', I, q⟩
  | brk => exact h
  | cont => exact h
/-- the class's cell -/
theorem cells_class {P : Program} {K : PySem.W.Frag} {F : NF} {D f cc : Addr} {fd : FuncData} (T : SupF P K F D f cc fd) (s : Shared) (H : Hp) (keeps : K.In s.heap) (off : ∀ b o, K.lookup b = some o → H b = none) : CellsAt F.cl ["__class__"] [some (.ref D)] s.heap H := by
  obtain ⟨cl0, cld, csl, lc⟩ := T.cell
  have hc : s.heap.get? cc = some ⟨cl0, cld, .cell (some (.ref D)), csl⟩ := keeps _ _ lc
  rw [T.cl]
  have look : ∀ y c, List.lookup y [(("__class__" : Str), cc)] = some c → c = cc ∧ y = "__class__" := by
    intro y c e
    cases List.mem_singleton.mp (PySem.mem_of_lookup e)
    exact ⟨rfl, rfl⟩
  refine ⟨rfl, ?_, ?_, ?_⟩
  · intro y c e
    rw [(look y c e).1]
    exact ⟨off _ _ lc, _, _, hc, rfl⟩
  · intro x y c e1 e2
    rw [(look x c e1).2, (look y c e2).2]
  · intro i y e
    match i, e with
    | 0, e =>
      cases e
      exact ⟨cc, rfl, fun v hv => by cases hv; exact ⟨_, rfl, _, hc, rfl⟩⟩
theorem cells_none (s : Shared) (H : Hp) : CellsAt [] [] [] s.heap H := ⟨rfl, fun _ _ z => (nomatch z), fun _ _ _ z => (nomatch z), fun i _ z => by cases i <;> cases z⟩
section
variable {CX CX' : CXT} {P : Program} {w : World} {K : PySem.W.Frag} {mg : Str → Option Value} {base : Heap} {N as : List Str} {pv : Str} {F : NF} {f D cc g : Addr} {fd : FuncData} {k nmax : Nat} {sp sp' : Sp}
  {p0 p1 p2 pos apos rp : Pos} {m : Str} {e1 e2 : Expr} {t : TA} {ar : Arg} {E' : XK → XK} {oc dV kV doc pm ct : Value} {od an : Option Addr} {osl : Array (Option Value)}
/-- def m(self, .., *r): super().m(x, *y) -/
theorem fn_superV (T : SupF P K F D f cc fd) (S : NScope N (as ++ [pv]) ["__class__"] F.scope) (hbody : F.body = [.Expr (.Call (.Attribute (.Call (.Name "super" p0) [] [] p1) m apos) [e1, .Starred e2 p2] [] pos) rp]) (hz : nmax ≤ sizeLine)
    (hb : ∀ us rest : List Value, us.length = as.length → rest.length ≤ nmax → bindArgs fd ⟨us ++ rest, []⟩ = (newTuple rest >>= fun t => pure ((as ++ [pv]).zip (us ++ [t])))) (hCX : CXNew CX)
    (hsup : F.scope.names.lookup ("super" : Str) = some .globalImplicit) (hp : (F.params.posonlyargs ++ F.params.args).head? = some ar) (hN : N[0]? = some ar.arg) (hka : F.scope.names.lookup ar.arg = some .local) (hm0 : mg "super" = none)
    (hsw : ∀ L, swapsWith (.Call (.Attribute (.Call (.Name "super" p0) [] [] p1) m apos) [e1, .Starred e2 p2] [] pos) none rp.line (envF F f L) = pure false) (hia : ∀ L, interactive (envF F f L) = false)
    (ha : ∀ A outer s H E, PA (ncx CX P w K mg base N F f A outer s H E) [e1, .Starred e2 p2] t) (hst : ∀ L, starEach [e1, .Starred e2 p2] (envF F f L) = [(false, eval e1 (envF F f L)), (true, eval e2 (envF F f L))])
    (FR : FnR P w K mg base CX' k g sp') (hx : ∀ A outer s H E, Passes CX' (ncx CX P w K mg base N F f A outer s H E) (E' E))
    (want : ∀ vs H Q E, sp vs H Q E → ∃ x C dx fs, vs[0]? = some (.ref x) ∧ H x = some (.ins C dx fs) ∧ SupM K C D m g ∧ ∀ q, H q = none → t (startF N vs [some (.ref D)]) (upd H q (.met g x)) fun ws H1 => H1 q = some (.met g x) ∧ sp' (.ref x :: ws) H1 (fun _ H2 => Q .non H2) (E' E)) :
    FnR P w K mg base CX (k + 1) f (fun vs H Q E => ∃ xs rest, vs = xs ++ rest ∧ xs.length = as.length ∧ rest.length ≤ nmax ∧ ∀ p, H p = none → sp (xs ++ [.ref p]) (upd H p (.tup rest)) Q E) := by
  obtain ⟨kV, doc, pm, ct, an, efd⟩ := T.fd_
  obtain ⟨oc, od, osl, lk⟩ := T.fn
  refine fn_atV lk efd T.code S (fun s H => cells_class T s H) hz hb hCX fun A outer s H vs Q E s1 hr hsp I => ?_
  obtain ⟨x, C, dx, fs, h0, hi, M, ht⟩ := want _ _ _ _ hsp
  have hσ : (startF N vs [some (.ref D)])[0]? = some (some (.ref x)) := by
    cases vs with
    | nil => cases h0
    | cons v r =>
      cases h0
      rfl
  exact ks_wpAt_mono (super_execS T S hbody hsup hp hN hka hm0 hsw hia (ha A outer s H E) hst FR (hx A outer s H E) hr I hσ hi M ht) (fun _ _ z => z.g) fun _ _ z => z
/-- def f(a, .., *r), by its body -/
theorem fn_star (lk : K.lookup f = some ⟨oc, od, .func fd, osl⟩) (hfd : fd = PySem.W.fnX F.name F.qual F.params F.body F.scope F.cl dV kV doc pm an (.ref F.c) ct) (hcd : PySem.W.codeIn K (.ref F.c) F.qual = true) (hcl : F.cl = []) (S : NScope N (as ++ [pv]) [] F.scope) (hz : nmax ≤ sizeLine)
    (hb : ∀ us rest : List Value, us.length = as.length → rest.length ≤ nmax → bindArgs fd ⟨us ++ rest, []⟩ = (newTuple rest >>= fun t => pure ((as ++ [pv]).zip (us ++ [t])))) (hCX : CXNew CX)
    (hbody : ∀ (A : Around) (outer : List Env) (s : Shared) (H : Hp) (vs : List V) (Q : VK) (E : XK), Room k (A.deeper (envF F f s.heap.objs.size)) → sp vs H Q E →
      ∃ t, PSs (ncx CX P w K mg base N F f A outer s H E) F.body t ∧ t { nx := fun _ H' => Q .non H', rt := Q } (startF N vs []) H) :
    FnR P w K mg base CX (k + 1) f (fun vs H Q E => ∃ xs rest, vs = xs ++ rest ∧ xs.length = as.length ∧ rest.length ≤ nmax ∧ ∀ p, H p = none → sp (xs ++ [.ref p]) (upd H p (.tup rest)) Q E) := by
  refine fn_atV lk hfd hcd S (fun s H _ _ => by rw [hcl]; exact cells_none s H) hz hb hCX fun A outer s H vs Q E s1 hr hsp I => ?_
  obtain ⟨t, ht, want⟩ := hbody A outer s H vs Q E hr hsp
  refine PySem.wpAt_of_wpAny (wpAny_mono (ht.run [] _ _ _ _ I want) (fun fl s' got => ?_) fun _ _ z => z)
  cases fl with
  | ret u =>
    obtain ⟨v, σ', H', J, rv, q⟩ := got
    exact ⟨v, σ', H', J, rv, q⟩
  | next =>
    obtain ⟨σ', H', J, q⟩ := got
    exact ⟨σ', H', J, q⟩
  | brk =>
    obtain ⟨_, _, _, q⟩ := got
    exact False.elim q
  | cont =>
    obtain ⟨_, _, _, q⟩ := got
    exact False.elim q
end
end KU
set_option Elab.async false
set_option linter.all false
namespace KU
open PySem PySem.Spec PyProof.Rows L2 NdefX
/-- a def with *star that raises -/
theorem cxnew {P : Program} {w : World} : L2.CXNew (L2.CX P w) := by
  intro outer s H h2 p rest E e s' kp hp new0 z
  obtain ⟨a, B, H', cls, d, rfl, fl, ok, ub, na, os, ab, ex⟩ := z
  have ne : ∀ b o, s.heap.get? b = some o → b ≠ p := fun b o hb => Nat.ne_of_lt (Nat.lt_of_lt_of_le (Heap.lt_size hb) hp)
  refine ⟨a, B, H', cls, d, rfl, fl, ok, ?_, na, os, ab, ex⟩
  have nn : ∀ b x, H b = some x → b ≠ p := fun b x hb z => by
    rw [z, new0] at hb
    exact nomatch hb
  exact { keep := fun b o hb hn hf => ub.keep b o (kp b o hb) (by rw [upd_ne (ne b o hb)]; exact hn) hf
          slot := fun b o hb hf => ub.slot b o (kp b o hb) hf
          free := fun b o hb hn => ub.free b o (kp b o hb) (by rw [upd_ne (ne b o hb)]; exact hn)
          there := fun b o hb hf => ub.there b o (kp b o hb) hf
          tups := fun b xs hb => ub.tups b xs (by rw [upd_ne (nn b _ hb)]; exact hb)
          frzs := fun b o xs hb => ub.frzs b o xs (by rw [upd_ne (nn b _ hb)]; exact hb)
          tbls := fun b ps hb => ub.tbls b ps (by rw [upd_ne (nn b _ hb)]; exact hb) }
end KU
set_option Elab.async false
set_option linter.all false
set_option maxRecDepth 100000
set_option maxHeartbeats 4000000
namespace KV
open PySem PySem.Spec PyProof.Rows L2 Evl KF
namespace Rt
open PySem PySem.W
variable {prog : Program} {w : World} {K : Frag} {A : Around} {E : Value → Shared → Prop} {s : Shared} {x y C C2 f : Addr} {ox oy : Obj} {od od2 : Option Obj}
theorem rich_right {Q : Value → Shared → Prop} (hu : A.units + 1 < cLine) (X : K.In s.heap) (I : InstAt s.heap x ox C od) (J : InstAt s.heap y oy C2 od2) (ne : C ≠ C2) (hm : mroIn K C2 (.ref C) = some true)
    (hs : findIn K (.ref C2) "__eq__" = some (some (.ref f))) (hf : isFn K (.ref f) = true)
    (h : wpAny (model prog w) A (call (.ref f) [.ref y, .ref x]) (fun v s' => ∃ b, v = .bool b ∧ Q (.bool b) s') E s) : wpAny (model prog w) A (richCompare .Eq (.ref x) (.ref y)) Q E s := by
  have one : wpAny (model prog w) A (tryCompare (.ref y) "__eq__" (.ref x)) (fun r s' => ∃ b, r = some (.bool b) ∧ Q (.bool b) s') E s := by
    unfold tryCompare
    refine wpAny_bind (ifBound_K X J hs hf (wpAny_mono h (fun v s' hv => ?_) fun _ _ e => e))
    obtain ⟨b, rfl, hq⟩ := hv
    first | exact ⟨b, rfl, wpAny_pure ⟨b, rfl, hq⟩⟩ | exact ⟨b, rfl, wpAny_pure (wpAny_pure hq)⟩ | exact wpAny_pure ⟨b, rfl, hq⟩ | exact ⟨b, rfl, ⟨b, rfl, hq⟩⟩
  unfold richCompare
  simp only [oneThing_ref]
  refine wpAny_holding (wpAny_bind (wpAny_cRoomFor (Nat.lt_of_succ_lt hu) ?_))
  rw [show (cmpInfo CmpOp.Eq).2.snd = "__eq__" from rfl]
  refine wpAny_bind (I.type.here (wpAny_bind (J.type.here ?_)))
  rw [show (Value.ref C != Value.ref C2) = true from by simp [ne]]
  simp only [if_true]
  refine wpAny_bind ((looks_mroIn X hm).here ?_)
  simp only [if_true]
  refine wpAny_bind (wpAny_mono one (fun r s' z => ?_) fun _ _ e => e)
  obtain ⟨b, rfl, hq⟩ := z
  first | exact wpAny_pure hq | exact wpAny_pure (wpAny_pure hq) | exact wpAny_bind (wpAny_rule (wpAny_pure hq)) | (refine wpAny_bind ?_; wp_step; exact wpAny_pure hq)
end Rt
open PySem
/-- x == y, y an own instance of a class below x's own: y's own __eq__ goes first -/
def rOwnRF (C C2 : Addr) (sp : Sp) (E : XK) : R2 := fun x y H Q => ∃ (p dx : Addr) (fs : List (Str × V)) (q dy : Addr) (gs : List (Str × V)), x = .ref p ∧ y = .ref q ∧ H p = some (.ins C dx fs) ∧ H q = some (.ins C2 dy gs) ∧ sp [y, x] H (fun v H' => ∃ b, v = .bl b ∧ Q (.bl b) H') E
section
variable {X : Cx} {CX : CXT} {C C2 g : Addr} {n : Nat} {sp : Sp} {E : XK}
theorem op_ownRF (ne : C ≠ C2) (hm : PySem.W.mroIn X.K C2 (.ref C) = some true) (hs : PySem.W.findIn X.K (.ref C2) "__eq__" = some (some (.ref g))) (hf : PySem.W.isFn X.K (.ref g) = true)
    (F : FnR X.prog X.w X.K X.mg X.base CX n g sp) (room : Room n X.A) (hx : Passes CX X E) : OpR X (compareOp .Eq) (rOwnRF C C2 sp E) := by
  intro pins s σ H x y v u Q I rx ry told
  obtain ⟨p, dx, fs, q, dy, gs, rfl, rfl, hp, hq, want⟩ := told
  obtain rfl : v = Value.ref p := rx
  obtain rfl : u = Value.ref q := ry
  obtain ⟨o1, d1, J1, _⟩ := StX.insC_at (X := X) I (.inr ⟨dx, fs, hp⟩)
  obtain ⟨o2, d2, J2, _⟩ := StX.insC_at (X := X) I (.inr ⟨dy, gs, hq⟩)
  have hu : X.A.units + 1 < cLine := by have := room.units; have := room.units0; omega
  show wpAny (model X.prog X.w) X.A (richCompare .Eq (.ref p) (.ref q)) _ _ _
  refine Rt.rich_right hu I.kIn J1 J2 ne hm hs hf (wpAny_mono (wpAny_call (SlX.run_at (us := [.ref q, .ref p]) (ws := [.ref q, .ref p]) F room I.env0 hx I (.cons rfl (.cons rfl .nil)) want)) (fun r s' got => ?_) fun _ _ same => same)
  obtain ⟨z, H', I', rz, b, rfl, want2⟩ := got
  obtain rfl : r = Value.bool b := rz
  exact ⟨b, rfl, .bl b, H', I', rfl, want2⟩
end
end KV
set_option linter.all false
namespace KV
open PySem PyProof.Rows
theorem ltC_nil_nil : Spec.ltCps [] [] = false := rfl
theorem ltC_cons_nil (a : Nat) (x : List Nat) : Spec.ltCps (a :: x) [] = false := rfl
theorem ltC_nil_cons (a : Nat) (x : List Nat) : Spec.ltCps [] (a :: x) = true := rfl
theorem ltC_cons (a b : Nat) (x y : List Nat) : Spec.ltCps (a :: x) (b :: y) = (if a = b then Spec.ltCps x y else decide (a < b)) := by
  simp only [Spec.ltCps]
  first | rfl | (split <;> simp_all) | skip
theorem le_trans_ltC : ∀ (x y z : List Nat), Spec.ltCps y x = false → Spec.ltCps z y = false → Spec.ltCps z x = false
  | [], _, [], _, _ => rfl
  | [], _, _ :: _, _, _ => rfl
  | _ :: _, [], _, h, _ => by simp [ltC_nil_cons] at h
  | _ :: _, _ :: _, [], _, h => by simp [ltC_nil_cons] at h
  | a :: x, b :: y, c :: z, h1, h2 => by
    rw [ltC_cons] at *
    by_cases e1 : b = a
    · subst e1
      rw [if_pos rfl] at h1
      by_cases e2 : c = b
      · subst e2
        rw [if_pos rfl] at h2 ⊢
        exact le_trans_ltC x y z h1 h2
      · rw [if_neg e2] at h2 ⊢
        exact h2
    · rw [if_neg e1] at h1
      have h1' := of_decide_eq_false h1
      by_cases e2 : c = b
      · subst e2
        rw [if_neg e1]
        exact h1
      · rw [if_neg e2] at h2
        have h2' := of_decide_eq_false h2
        rw [if_neg (by omega)]
        exact decide_eq_false (by omega)
theorem antisymm_ltC : ∀ (x y : List Nat), Spec.ltCps y x = false → Spec.ltCps x y = false → x = y
  | [], [], _, _ => rfl
  | [], _ :: _, _, h => by simp [ltC_nil_cons] at h
  | _ :: _, [], h, _ => by simp [ltC_nil_cons] at h
  | a :: x, b :: y, h1, h2 => by
    rw [ltC_cons] at *
    by_cases e : a = b
    · subst e
      rw [if_pos rfl] at h1 h2
      rw [antisymm_ltC x y h1 h2]
    · rw [if_neg (fun h => e h.symm)] at h1
      rw [if_neg e] at h2
      have := of_decide_eq_false h1
      have := of_decide_eq_false h2
      omega
def leS (a b : Str) : Prop := Spec.ltCps b.cps.toList a.cps.toList = false
theorem leS_trans {a b c : Str} (h : leS a b) (k : leS b c) : leS a c := le_trans_ltC _ _ _ h k
theorem leS_antisymm {a b : Str} (h : leS a b) (k : leS b a) : a = b := by
  have := antisymm_ltC _ _ h k
  cases a; cases b
  simp only [Str.mk.injEq]
  exact Array.toList_inj.mp this
theorem risingS_nil (x : Str) : risingS x [] = true := rfl
theorem pairwise_of_risingS : ∀ (l : List Str) (x : Str), risingS x l = true → (x :: l).Pairwise leS
  | [], x, _ => List.pairwise_singleton _ _
  | y :: r, x, h => by
    have h' : (!Spec.ltCps y.cps.toList x.cps.toList && risingS y r) = true := h
    rw [Bool.and_eq_true] at h'
    have ih := pairwise_of_risingS r y h'.2
    have xy : leS x y := by
      have := h'.1
      unfold leS
      cases hh : Spec.ltCps y.cps.toList x.cps.toList <;> simp_all
    refine List.pairwise_cons.mpr ⟨fun z hz => ?_, ih⟩
    rcases List.mem_cons.mp hz with rfl | hz
    · exact xy
    · exact leS_trans xy ((List.pairwise_cons.mp ih).1 z hz)
theorem pairwise_of_sortedS {l : List Str} (h : sortedS l = true) : l.Pairwise leS := by
  cases l with
  | nil => exact .nil
  | cons x r => exact pairwise_of_risingS r x h
/-- two sorted lists with the same items are one -/
theorem sorted_unique {a b : List Str} (ha : sortedS a = true) (hb : sortedS b = true) (p : a.Perm b) : a = b :=
  List.Perm.eq_of_pairwise (fun _ _ _ _ => leS_antisymm) (pairwise_of_sortedS ha) (pairwise_of_sortedS hb) p
/-- sorted(xs) = sorted(ys) just where ys is xs turned about -/
theorem sorted_eq_iff {a b xs ys : List Str} (ha : sortedS a = true) (pa : a.Perm xs) (hb : sortedS b = true) (pb : b.Perm ys) : (a = b) ↔ xs.Perm ys :=
  ⟨fun e => pa.symm.trans (e ▸ pb), fun p => sorted_unique ha hb (pa.trans (p.trans pb.symm))⟩
end KV
set_option Elab.async false
set_option linter.all false
namespace KV
open PySem PySem.Spec PyProof.Rows L2 Evl KF
/-! lists and tuples of texts, compared -/
theorem lay_strs : ∀ ss : List Str, (∀ s ∈ ss, PyData.strOk s = true) → PyData.canLayAll0 (ss.map PyData.str) = true
  | [], _ => rfl
  | s :: ss, h => by
    have ih := lay_strs ss fun x hx => h x (List.mem_cons_of_mem _ hx)
    have := h s (List.mem_cons_self ..)
    simp [PyData.canLayAll0, PyData.canLay0, ih, this]
theorem depth_strs : ∀ ss : List Str, PyData.depthAll (ss.map PyData.str) = 0
  | [] => by simp [PyData.depthAll]
  | s :: ss => by simp [PyData.depthAll, PyData.depth, depth_strs ss]
theorem shaped_strs {ss : List Str} (h : ∀ s ∈ ss, PyData.strOk s = true) : SeqAt.shaped (.tuple (ss.map PyData.str)) = true ∧ SeqAt.shaped (.list (ss.map PyData.str)) = true := by
  have l := lay_strs ss h
  constructor
  · unfold SeqAt.shaped
    simp [PyData.canLay0, PyData.depth, l, depth_strs]
  · unfold SeqAt.shaped
    simp [PyData.canLay0, PyData.depth, l, depth_strs]
theorem eqv_strs : ∀ a b : List Str, PyData.eqvAll (a.map PyData.str) (b.map PyData.str) = decide (a = b)
  | [], [] => by simp [PyData.eqvAll, PyData.eqv]
  | [], _ :: _ => by simp [PyData.eqvAll, PyData.eqv]
  | _ :: _, [] => by simp [PyData.eqvAll, PyData.eqv]
  | x :: a, y :: b => by
    have := eqv_strs a b
    simp only [List.map_cons, PyData.eqvAll, PyData.eqv, this]
    by_cases h : x = y <;> by_cases h2 : a = b <;> simp [h, h2]
theorem dp_strs {K : PySem.W.Frag} {H : Hp} : ∀ ns : List Str, DpAll K H (ns.map V.str) (ns.map PyData.str)
  | [] => .nil
  | n :: ns => .cons (.str n) (dp_strs ns)
theorem rv_eqLS {K : PySem.W.Frag} {H : Hp} {p q : Addr} {xs ys : List Str} (h1 : H p = some (.lst (xs.map V.str))) (h2 : H q = some (.lst (ys.map V.str))) (o1 : ∀ s ∈ xs, PyData.strOk s = true) (o2 : ∀ s ∈ ys, PyData.strOk s = true) : RV (rEqD K) (.ref p) (.ref q) H (.bl (decide (xs = ys))) := fun H1 e Q k =>
  ⟨.list (xs.map PyData.str), .list (ys.map PyData.str), .lst (sq_of (e _ _ h1)) (dp_strs xs), .lst (sq_of (e _ _ h2)) (dp_strs ys), (shaped_strs o1).2, (shaped_strs o2).2, by
    rw [show PyData.eqv (.list (xs.map PyData.str)) (.list (ys.map PyData.str)) = PyData.eqvAll (xs.map PyData.str) (ys.map PyData.str) by simp [PyData.eqv], eqv_strs]
    exact k H1 (Ex.refl H1)⟩
end KV
set_option Elab.async false
set_option linter.all false
set_option maxRecDepth 100000
set_option maxHeartbeats 4000000
namespace KV
open PySem PySem.Spec PyProof.Rows L2 Evl KF
/-! a list of anything against [] -/
def rNilL (K : PySem.W.Frag) (neg : Bool) : R2 := fun x y H Q => ∃ (a b : Addr) (xs : List V), x = .ref a ∧ y = .ref b ∧ SqL K H a xs ∧ SqL K H b [] ∧ Q (.bl (if neg then !decide (xs = []) else decide (xs = []))) H
theorem isL {h : Heap} {a : Addr} {its : Array Value} (p : PlainL h a its) : h.IsList a its := let ⟨o, n, e, c, _, d⟩ := p; ⟨o, e, c, n, d⟩
section
variable {X : Cx} {K : PySem.W.Frag}
theorem op_eqNilL (hK : X.K = K) (hu : X.A.units + 64 < cLine) : OpR X (compareOp .Eq) (rNilL K false) := by
  subst hK
  intro pins s σ H x y v u Q I rx ry h
  obtain ⟨a, b, xs, rfl, rfl, ha, hb, q⟩ := h
  by_cases e : xs = []
  · subst e
    exact op_eqD hu pins s σ H _ _ v u Q I rx ry ⟨.list [], .list [], .lst ha .nil, .lst hb .nil, by decide +kernel, by decide +kernel, by rw [show PyData.eqv (.list []) (.list []) = true by decide +kernel]; exact q⟩
  · obtain ⟨its, r1, h1, _⟩ := I.list ha
    obtain ⟨its2, r2, h2, _⟩ := I.list hb
    replace h1 := isL h1
    replace h2 := isL h2
    obtain rfl : v = Value.ref a := rx
    obtain rfl : u = Value.ref b := ry
    have l2 : its2 = [] := by cases r2; rfl
    subst l2
    have ne : (its.toArray.size != ([] : List Value).toArray.size) = true := by
      cases r1 with
      | nil => exact absurd rfl e
      | cons _ _ => simp
    have z : (if false = true then !decide (xs = []) else decide (xs = [])) = false := by simp [e]
    rw [z] at q
    exact SeqAt.RcAt.lists_lengths h1 h2 ne (Nat.lt_of_le_of_lt (Nat.le_add_right _ _) hu) X.prog X.w _ _ ⟨.bl false, H, I, rfl, q⟩
theorem op_neNilL (hK : X.K = K) (hu : X.A.units + 64 < cLine) : OpR X (compareOp .NotEq) (rNilL K true) := by
  subst hK
  intro pins s σ H x y v u Q I rx ry h
  obtain ⟨a, b, xs, rfl, rfl, ha, hb, q⟩ := h
  by_cases e : xs = []
  · subst e
    exact op_neD hu pins s σ H _ _ v u Q I rx ry ⟨.list [], .list [], .lst ha .nil, .lst hb .nil, by decide +kernel, by decide +kernel, by rw [show PyData.eqv (.list []) (.list []) = true by decide +kernel]; exact q⟩
  · obtain ⟨its, r1, h1, _⟩ := I.list ha
    obtain ⟨its2, r2, h2, _⟩ := I.list hb
    replace h1 := isL h1
    replace h2 := isL h2
    obtain rfl : v = Value.ref a := rx
    obtain rfl : u = Value.ref b := ry
    have l2 : its2 = [] := by cases r2; rfl
    subst l2
    have ne : (its.toArray.size != ([] : List Value).toArray.size) = true := by
      cases r1 with
      | nil => exact absurd rfl e
      | cons _ _ => simp
    have z : (if true = true then !decide (xs = []) else decide (xs = [])) = true := by simp [e]
    rw [z] at q
    exact SeqAt.RcNeAt.lists_lengths h1 h2 ne (Nat.lt_of_le_of_lt (Nat.le_add_right _ _) hu) X.prog X.w _ _ ⟨.bl true, H, I, rfl, q⟩
theorem rv_nilL {K : PySem.W.Frag} {H : Hp} {p q : Addr} {xs : List V} {neg : Bool} (h1 : H p = some (.lst xs)) (h2 : H q = some (.lst [])) : RV (rNilL K neg) (.ref p) (.ref q) H (.bl (if neg then !decide (xs = []) else decide (xs = []))) := fun H1 e Q k =>
  ⟨p, q, xs, rfl, rfl, sq_of (e _ _ h1), sq_of (e _ _ h2), k H1 (Ex.refl H1)⟩
theorem ev_eqNilL {σ : L2.St} {H : Hp} {te tl : TE} {p : Addr} {xs : List V} {neg : Bool} (h : Ev te σ H (.ref p)) (hp : H p = some (.lst xs)) (hl : EvL tl σ H []) : Ev (tOp (rNilL K neg) te tl) σ H (.bl (if neg then !decide (xs = []) else decide (xs = []))) := ev_opL h hl fun q H1 hq e => rv_nilL (e _ _ hp) hq
theorem ev_eqNilN {σ : L2.St} {H : Hp} {te tl : TE} {xs : List V} {neg : Bool} (h : EvL te σ H xs) (hl : EvL tl σ H []) : Ev (tOp (rNilL K neg) te tl) σ H (.bl (if neg then !decide (xs = []) else decide (xs = []))) := ev_opLL h hl fun p q H1 hp hq e => rv_nilL hp hq
end
theorem notFirst_self {K : PySem.W.Frag} {C : Addr} : PySem.W.notFirst K C (.ref C) = true := by
  unfold PySem.W.notFirst
  simp
end KV
set_option Elab.async false
set_option linter.all false
set_option maxRecDepth 100000
set_option maxHeartbeats 4000000
namespace KW
open PySem PySem.Spec PyProof.Rows L2 Evl KF
namespace Rt
open PySem PySem.SeqAt MeetsSeq MeetsSeq2 MeetsSeq3 SeqRoads2
def DictObj (s : Shared) (a : Addr) : Prop := ∃ (dd : Option Addr) (es : Array DictEntry) (n : Nat) (sl : Array (Option Value)), s.heap.get? a = some { cls := .type "dict", dict := dd, data := .dict es n, slots := sl }
theorem deq_no (l : Addr) (es : Array DictEntry) (n : Nat) (dd : Option Addr) (sl : Array (Option Value)) (b : Str) (u : Tok) :
    Meets (Builtin.«dict.__eq__» ⟨[.ref l, .str b u], []⟩) (fun _ R s => (s.heap.get? l = some { cls := .type "dict", dict := dd, data := .dict es n, slots := sl }) ∧ R (.ok (.ret .notImplemented)) s) :=
  .of_wp fun prog w A R s ⟨hl, h⟩ => by
    obtain ⟨hp, g, d, tk, os⟩ := s
    have no := F.sub_str_dict
    have tI : Shared.TypeIs ⟨hp, g, d, tk, os⟩ (.ref l) "dict" := ⟨_, hl, rfl⟩
    show wpAny _ _ (Builtin.Dict.dictSlotArgs "__eq__" ⟨[.ref l, .str b u], []⟩ >>= _) _ _ _
    refine wpAny_bind ?_
    unfold Builtin.Dict.dictSlotArgs
    refine wpAny_bind (wpAny_notOrdered_dict tI ?_)
    show wpAny _ _ (pure (Value.ref l, Value.str b u)) _ _ _
    refine wpAny_pure ?_
    refine wpAny_bind (wpAny_isInstance (T := "str") (typeIs_str _ b u) no ?_)
    simp only [Bool.not_false, if_true]
    first | exact wpAny_pure ⟨_, rfl, h⟩ | (wp_walk; exact ⟨_, rfl, h⟩) | exact wpAny_pure h
theorem dne_no (l : Addr) (es : Array DictEntry) (n : Nat) (dd : Option Addr) (sl : Array (Option Value)) (b : Str) (u : Tok) :
    Meets (Builtin.«dict.__ne__» ⟨[.ref l, .str b u], []⟩) (fun _ R s => (s.heap.get? l = some { cls := .type "dict", dict := dd, data := .dict es n, slots := sl }) ∧ R (.ok (.ret .notImplemented)) s) :=
  .of_wp fun prog w A R s ⟨hl, h⟩ => by
    obtain ⟨hp, g, d, tk, os⟩ := s
    have no := F.sub_str_dict
    have tI : Shared.TypeIs ⟨hp, g, d, tk, os⟩ (.ref l) "dict" := ⟨_, hl, rfl⟩
    show wpAny _ _ (Builtin.Dict.dictSlotArgs "__ne__" ⟨[.ref l, .str b u], []⟩ >>= _) _ _ _
    refine wpAny_bind ?_
    unfold Builtin.Dict.dictSlotArgs
    refine wpAny_bind (wpAny_notOrdered_dict tI ?_)
    show wpAny _ _ (pure (Value.ref l, Value.str b u)) _ _ _
    refine wpAny_pure ?_
    refine wpAny_bind (wpAny_isInstance (T := "str") (typeIs_str _ b u) no ?_)
    simp only [Bool.not_false, if_true]
    first | exact wpAny_pure ⟨_, rfl, h⟩ | (wp_walk; exact ⟨_, rfl, h⟩) | exact wpAny_pure h
theorem seq_no (b : Str) (u : Tok) (l : Addr) (es : Array DictEntry) (n : Nat) (dd : Option Addr) (sl : Array (Option Value)) :
    Meets (Builtin.«str.__eq__» ⟨[.str b u, .ref l], []⟩) (fun _ R s => (s.heap.get? l = some { cls := .type "dict", dict := dd, data := .dict es n, slots := sl }) ∧ R (.ok (.ret .notImplemented)) s) :=
  .of_wp fun prog w A R s ⟨hl, h⟩ => by
    obtain ⟨hp, g, d, tk, os⟩ := s
    wp_walk using wpAny_loadPart' hl, wpAny_load hl
    exact ⟨_, rfl, h⟩
theorem sne_no (b : Str) (u : Tok) (l : Addr) (es : Array DictEntry) (n : Nat) (dd : Option Addr) (sl : Array (Option Value)) :
    Meets (Builtin.«str.__ne__» ⟨[.str b u, .ref l], []⟩) (fun _ R s => (s.heap.get? l = some { cls := .type "dict", dict := dd, data := .dict es n, slots := sl }) ∧ R (.ok (.ret .notImplemented)) s) :=
  .of_wp fun prog w A R s ⟨hl, h⟩ => by
    obtain ⟨hp, g, d, tk, os⟩ := s
    wp_walk using wpAny_loadPart' hl, wpAny_load hl
    exact ⟨_, rfl, h⟩
variable {A : Around} {s : Shared}
theorem dict_str {l : Addr} (b : Str) (u : Tok) (hl : DictObj s l) (hu : A.units < cLine) : RcAt A s (.ref l) (.str b u) false := fun prog w E Q h => by
  obtain ⟨dd, es, n, sl, ho⟩ := hl
  have tI : s.TypeIs (.ref l) "dict" := ⟨_, ho, rfl⟩
  exact rc_eq_decline_or (k := false) tI (typeIs_str s b u) (by decide) F.sub_str_dict F.slot_dict_eq F.slot_str_eq_refl
    (fun _ hq => call_meets F.slot_dict_eq tI F.entry_dict_eq (F.args_dict_eq_2 _ _) (deq_no l es n dd sl b u) ⟨ho, hq⟩) (fun _ hq => call_meets F.slot_str_eq_refl (typeIs_str s b u) F.entry_str_eq (F.args_str_eq_2 _ _) (seq_no b u l es n dd sl) ⟨ho, hq⟩)
    (fun _ hq => wpAny_of_eq (rfl : isSame (.ref l) (.str b u) = pure false) hq) (.inr hu) h
theorem str_dict {l : Addr} (b : Str) (u : Tok) (hl : DictObj s l) (hu : A.units < cLine) : RcAt A s (.str b u) (.ref l) false := fun prog w E Q h => by
  obtain ⟨dd, es, n, sl, ho⟩ := hl
  have tI : s.TypeIs (.ref l) "dict" := ⟨_, ho, rfl⟩
  exact rc_eq_decline_or (k := false) (typeIs_str s b u) tI (by decide) F.sub_dict_str F.slot_str_eq F.slot_dict_eq_refl
    (fun _ hq => call_meets F.slot_str_eq (typeIs_str s b u) F.entry_str_eq (F.args_str_eq_2 _ _) (seq_no b u l es n dd sl) ⟨ho, hq⟩) (fun _ hq => call_meets F.slot_dict_eq_refl tI F.entry_dict_eq (F.args_dict_eq_2 _ _) (deq_no l es n dd sl b u) ⟨ho, hq⟩)
    (fun _ hq => wpAny_of_eq (rfl : isSame (.str b u) (.ref l) = pure false) hq) (.inr hu) h
theorem dict_strN {l : Addr} (b : Str) (u : Tok) (hl : DictObj s l) (hu : A.units < cLine) : RcNeAt A s (.ref l) (.str b u) true := fun prog w E Q h => by
  obtain ⟨dd, es, n, sl, ho⟩ := hl
  have tI : s.TypeIs (.ref l) "dict" := ⟨_, ho, rfl⟩
  exact rc_ne_decline_or (k := false) tI (typeIs_str s b u) (by decide) F.sub_str_dict F.slot_dict_ne F.slot_str_ne_refl
    (fun _ hq => call_meets F.slot_dict_ne tI F.entry_dict_ne (F.args_dict_ne_2 _ _) (dne_no l es n dd sl b u) ⟨ho, hq⟩) (fun _ hq => call_meets F.slot_str_ne_refl (typeIs_str s b u) F.entry_str_ne (F.args_str_ne_2 _ _) (sne_no b u l es n dd sl) ⟨ho, hq⟩)
    (fun _ hq => wpAny_of_eq (rfl : isSame (.ref l) (.str b u) = pure false) hq) (.inr hu) h
theorem eqAt_of {a : Str} {t : Tok} {l : Addr} (h : RcAt A s (.str a t) (.ref l) false) : EqAt A s (.str a t) (.ref l) false := fun prog w E Q hq => by
  unfold eqBool
  refine wpAny_holding (wpAny_ite_split (fun hab => absurd (eq_of_beq hab) nofun) fun _ => ?_)
  exact wpAny_bind (h prog w E _ (wpAny_truthy_bool hq))
end Rt
open PySem
/-- a list, a tuple or a dict -/
def BoxV (K : PySem.W.Frag) (H : Hp) (a : Addr) : Prop := (∃ xs, SqL K H a xs) ∨ (∃ xs, SqT K H a xs) ∨ ∃ kvs, H a = some (.dK kvs)
theorem BoxV.mono {K : PySem.W.Frag} {H H' : Hp} {a : Addr} (h : BoxV K H a) (e : Ex H H') : BoxV K H' a := by
  rcases h with ⟨xs, h⟩ | ⟨xs, h⟩ | ⟨kvs, h⟩
  · exact .inl ⟨xs, ex_l e h⟩
  · exact .inr (.inl ⟨xs, ex_t e h⟩)
  · exact .inr (.inr ⟨kvs, e _ _ h⟩)
/-- any value that may be compared with a text -/
def AnyV (K : PySem.W.Frag) (H : Hp) (x : V) : Prop := flatV x = true ∨ ∃ a, x = .ref a ∧ BoxV K H a
theorem AnyV.mono {K : PySem.W.Frag} {H H' : Hp} {x : V} (h : AnyV K H x) (e : Ex H H') : AnyV K H' x := h.imp id fun ⟨a, ex, b⟩ => ⟨a, ex, b.mono e⟩
def rEqS (K : PySem.W.Frag) (neg : Bool) : R2 := fun x y H Q => ∃ z : Str, y = .str z ∧ AnyV K H x ∧ Q (.bl (if neg then !decide (x = y) else decide (x = y))) H
def rInS (K : PySem.W.Frag) (neg : Bool) : R2 := fun x y H Q => ∃ (p : Addr) (zs : List Str), y = .ref p ∧ SqT K H p (zs.map V.str) ∧ AnyV K H x ∧ Q (.bl (if neg then !decide (∃ z ∈ zs, x = .str z) else decide (∃ z ∈ zs, x = .str z))) H
section
variable {X : Cx} {K : PySem.W.Frag} {pins : List (Addr × Obj)} {σ : L2.St} {H : Hp} {s : Shared}
theorem box_dict (I : L2.Inv X pins σ H s) {a : Addr} {kvs : List (Key × V)} (h : H a = some (.dK kvs)) : Rt.DictObj s a := by
  obtain ⟨_, _, vs, _, o, es, ep, ho, ex, hd, _⟩ := dk_of I.hok h
  obtain ⟨cls, dd, data, sl⟩ := o
  have hc : cls = .type "dict" := ex.1
  subst hc
  have hd' : data = .dict es ep := hd
  subst hd'
  exact ⟨dd, es, ep, sl, ho⟩
theorem box_at (I : L2.Inv X pins σ H s) {a : Addr} (h : BoxV X.K H a) (hu : A.units < cLine) (b : Str) (u : Tok) : SeqAt.RcAt A s (.ref a) (.str b u) false ∧ SeqAt.RcAt A s (.str b u) (.ref a) false ∧ SeqAt.RcNeAt A s (.ref a) (.str b u) true := by
  rcases h with ⟨xs, h⟩ | ⟨xs, h⟩ | ⟨kvs, h⟩
  · obtain ⟨its, _, pl, _⟩ := I.list h
    have q := KV.isL pl
    exact ⟨SeqAt.RcAt.list_str b u q hu, SeqAt.RcAt.str_list b u q hu, SeqAt.RcNeAt.list_str b u q hu⟩
  · obtain ⟨its, _, q, _⟩ := I.tuple h
    exact ⟨SeqAt.RcAt.tuple_str b u q hu, SeqAt.RcAt.str_tuple b u q hu, SeqAt.RcNeAt.tuple_str b u q hu⟩
  · have q := box_dict I h
    exact ⟨Rt.dict_str b u q hu, Rt.str_dict b u q hu, Rt.dict_strN b u q hu⟩
theorem scal_str {x : V} {z : Str} (h : flatV x = true) : scal x (.str z) = true := by
  cases x <;> first | rfl | exact nomatch (show false = true from h)
theorem op_eqS (hK : X.K = K) (hu : X.A.units + 64 < cLine) : OpR X (compareOp .Eq) (rEqS K false) := by
  subst hK
  intro pins s σ H x y v u Q I rx ry h
  obtain ⟨z, rfl, av, q⟩ := h
  rcases av with fl | ⟨a, rfl, bx⟩
  · exact op_eq pins s σ H _ _ v u Q I rx ry ⟨scal_str fl, q⟩
  · obtain rfl : v = Value.ref a := rx
    obtain ⟨t, rfl⟩ := ry
    have z : (if false = true then !decide (V.ref a = V.str z) else decide (V.ref a = V.str z)) = false := by simp
    rw [z] at q
    exact (box_at I bx (Nat.lt_of_le_of_lt (Nat.le_add_right _ _) hu) _ t).1 X.prog X.w _ _ ⟨.bl false, H, I, rfl, q⟩
theorem op_neS (hK : X.K = K) (hu : X.A.units + 64 < cLine) : OpR X (compareOp .NotEq) (rEqS K true) := by
  subst hK
  intro pins s σ H x y v u Q I rx ry h
  obtain ⟨z, rfl, av, q⟩ := h
  rcases av with fl | ⟨a, rfl, bx⟩
  · exact op_ne pins s σ H _ _ v u Q I rx ry ⟨scal_str fl, q⟩
  · obtain rfl : v = Value.ref a := rx
    obtain ⟨t, rfl⟩ := ry
    have z : (if true = true then !decide (V.ref a = V.str z) else decide (V.ref a = V.str z)) = true := by simp
    rw [z] at q
    exact (box_at I bx (Nat.lt_of_le_of_lt (Nat.le_add_right _ _) hu) _ t).2.2 X.prog X.w _ _ ⟨.bl true, H, I, rfl, q⟩
theorem flat_strs : ∀ gs : List Str, (gs.map V.str).all flatV = true
  | [] => rfl
  | _ :: gs => flat_strs gs
theorem inV_any {x : V} (fl : flatV x = true) : ∀ zs : List Str, inV x (zs.map V.str) = decide (∃ z ∈ zs, x = .str z)
  | [] => by simp [inV]
  | z :: zs => by
    have ih := inV_any fl zs
    unfold inV at ih ⊢
    rw [List.map_cons, List.any_cons, ih]
    have e : eqV (.str z) x = decide (x = .str z) := by
      cases x with
      | str w =>
        by_cases h : w = z
        · subst h; simp [eqV]
        · simp [eqV, h, Ne.symm h]
      | _ => simp [eqV]
    rw [e, Bool.eq_iff_iff]
    simp
theorem vals_strs {us : List Value} : ∀ {zs : List Str}, Vals (zs.map V.str) us → ∀ w ∈ us, ∃ (z : Str) (t : Tok), w = .str z t := by
  induction us with
  | nil => exact fun _ w hw => nomatch hw
  | cons u us ih =>
    intro zs r w hw
    match zs, r with
    | z :: zs, .cons r1 r2 =>
      rcases List.mem_cons.mp hw with rfl | hw
      · obtain ⟨t, e⟩ := r1
        exact ⟨z, t, e⟩
      · exact ih r2 w hw
theorem op_inS (hK : X.K = K) (hu : X.A.units + 64 < cLine) : OpR X (compareOp .In) (rInS K false) := by
  subst hK
  intro pins s σ H x y v u Q I rx ry h
  obtain ⟨p, zs, rfl, hq, av, q⟩ := h
  rcases av with fl | ⟨a, rfl, bx⟩
  · exact op_in_seq pins s σ H x _ v u Q I rx ry ⟨p, _, rfl, .inr hq, fl, flat_strs _, by rw [inV_any fl]; exact q⟩
  · obtain rfl : v = Value.ref a := rx
    obtain rfl : u = Value.ref p := ry
    obtain ⟨its, r, pl, hz⟩ := I.tuple hq
    have no : decide (∃ z ∈ zs, V.ref a = V.str z) = false := by simp
    rw [no] at q
    refine SeqAt.in_tupleAt (fun _ => false) pl (fun w hw => ?_) ⟨.bl _, H, I, rfl, ?_⟩
    · obtain ⟨z, t, rfl⟩ := vals_strs r w (by simpa using hw)
      exact Rt.eqAt_of (box_at I bx (by have e : X.A.in1.units = X.A.units + 1 := rfl; omega) z t).2.1
    · have : its.toArray.any (fun _ => false) = false := by simp
      rw [this]
      exact q
theorem op_notInS (hK : X.K = K) (hu : X.A.units + 64 < cLine) : OpR X (compareOp .NotIn) (rInS K true) := by
  subst hK
  intro pins s σ H x y v u Q I rx ry h
  obtain ⟨p, zs, rfl, hq, av, q⟩ := h
  rcases av with fl | ⟨a, rfl, bx⟩
  · exact op_notIn_seq pins s σ H x _ v u Q I rx ry ⟨p, _, rfl, .inr hq, fl, flat_strs _, by rw [inV_any fl]; exact q⟩
  · obtain rfl : v = Value.ref a := rx
    obtain rfl : u = Value.ref p := ry
    obtain ⟨its, r, pl, hz⟩ := I.tuple hq
    have no : decide (∃ z ∈ zs, V.ref a = V.str z) = false := by simp
    rw [no] at q
    refine SeqAt.notIn_tupleAt (fun _ => false) pl (fun w hw => ?_) ⟨.bl _, H, I, rfl, ?_⟩
    · obtain ⟨z, t, rfl⟩ := vals_strs r w (by simpa using hw)
      exact Rt.eqAt_of (box_at I bx (by have e : X.A.in1.units = X.A.units + 1 := rfl; omega) z t).2.1
    · have : its.toArray.any (fun _ => false) = false := by simp
      rw [this]
      exact q
end
section
variable {K : PySem.W.Frag} {H : Hp} {x : V} {z : Str} {p : Addr} {zs : List Str} {neg : Bool}
theorem rv_eqS (h : AnyV K H x) : RV (rEqS K neg) x (.str z) H (.bl (if neg then !decide (x = .str z) else decide (x = .str z))) := fun H1 e Q k => ⟨z, rfl, h.mono e, k H1 (Ex.refl H1)⟩
theorem rv_inS (h : AnyV K H x) (hp : SqT K H p (zs.map V.str)) : RV (rInS K neg) x (.ref p) H (.bl (if neg then !decide (∃ z ∈ zs, x = .str z) else decide (∃ z ∈ zs, x = .str z))) := fun H1 e Q k => ⟨p, zs, rfl, ex_t e hp, h.mono e, k H1 (Ex.refl H1)⟩
end
end KW
set_option Elab.async false
set_option linter.all false
set_option maxRecDepth 100000
set_option maxHeartbeats 4000000
namespace KC
open PySem PySem.W PySem.Calls PyProof.Rows
section
variable {prog : Program} {w : World} {A : Around} {E : Value → Shared → Prop} {s : Shared} {K : Frag} {x y C f g : Addr} {ox oy : Obj} {od oe : Option Obj} {nm : String} {Q : Value → Shared → Prop}
/-- an own operand on the left, one of the same class on the right -/
theorem b1_oo (X : K.In s.heap) (I : InstAt s.heap x ox C od) (J : InstAt s.heap y oy C oe) (hc : selfFirst K C = true) (hs : findIn K (.ref C) (PySem.dunder nm) = some (some (.ref f))) (hf : isFn K (.ref f) = true)
    (h : wpAny (model prog w) A (call (.ref f) [.ref x, .ref y]) (W.CmpBack Q) E s) : wpAny (model prog w) A (binaryOp1 nm (.ref x) (.ref y)) (fun r s' => ∃ v, r = some v ∧ Q v s') E s := by
  obtain ⟨cd, rest, hcd, hm⟩ := ksp_first hc
  have one := ksp_try X I hs hf h
  obtain ⟨hh, gg, d, tt, os⟩ := s
  have L1 : Looks (model prog w) hh (typeOf (.ref x)) (.ref C) := I.type
  have L2 : Looks (model prog w) hh (typeOf (.ref y)) (.ref C) := J.type
  have L3 : Looks (model prog w) hh (fillsNumberSlot (.ref C) nm) true := fills_K X hcd hm hs
  unfold binaryOp1
  refine wpAny_bind (L1.at (wpAny_bind (L2.at (wpAny_bind (L3.at ?_)))))
  simp only [beq_self_eq_true, if_true]
  ksp_lk
  refine wpAny_mono one (fun r s' hr => ?_) fun _ _ e => e
  obtain ⟨v, rfl, hq⟩ := hr
  ksp_lk
  exact ⟨v, rfl, hq⟩
/-- on the right a whole number -/
theorem b1_oi {i : Int} {t : Tok} {rc : Option Value} (X : K.In s.heap) (I : InstAt s.heap x ox C od) (hc : selfFirst K C = true)
    (hs : findIn K (.ref C) (PySem.dunder nm) = some (some (.ref f))) (hf : isFn K (.ref f) = true) (hr : findIn K (.ref C) (dunderR nm) = some rc) (hp : rc = none ∨ ∃ g : Addr, rc = some (.ref g))
    {fo ro : Option Value} (h1 : findIn K (.type "int") (PySem.dunder nm) = some fo) (h2 : findIn K (.type "int") (dunderR nm) = some ro) (hsub : subIn K (.type "int") (.ref C) = some false)
    (h : wpAny (model prog w) A (call (.ref f) [.ref x, .int i t]) (W.CmpBack Q) E s) : wpAny (model prog w) A (binaryOp1 nm (.ref x) (.int i t)) (fun r s' => ∃ v, r = some v ∧ Q v s') E s := by
  obtain ⟨cd, rest, hcd, hm⟩ := ksp_first hc
  have one := ksp_try X I hs hf h
  obtain ⟨hh, gg, d, tt, os⟩ := s
  have L1 : Looks (model prog w) hh (typeOf (.ref x)) (.ref C) := I.type
  have L2 : Looks (model prog w) hh (typeOf (.int i t)) (.type "int") := Looks.of_pure rfl
  have L3 : Looks (model prog w) hh (fillsNumberSlot (.ref C) nm) true := fills_K X hcd hm hs
  have L4 : Looks (model prog w) hh (fillsNumberSlot (.type "int") nm) ((fo.isSome && !isSeqSlot fo) || (ro.isSome && !isSeqSlot ro)) := ksp_fillsT X h1 h2
  have L5 : Looks (model prog w) hh (isSubtype (.type "int") (.ref C)) false := looks_subIn X hsub
  have L6 : Looks (model prog w) hh (numberSlotInPython (.ref C) nm) true := ksp_inPy X hs hr hp
  have L7 : Looks (model prog w) hh (numberSlotInPython (.type "int") nm) false := Looks.of_pure rfl
  have L8 : Looks (model prog w) hh (typeLookup (.type "int") (dunderR nm)) ro := looks_findIn X h2
  generalize ((fo.isSome && !isSeqSlot fo) || (ro.isSome && !isSeqSlot ro)) = right at L4
  have unlike : (Value.ref C == Value.type "int") = false := Bool.eq_false_iff.mpr fun q => by cases beq_iff_eq.mp q
  unfold binaryOp1
  refine wpAny_bind (L1.at (wpAny_bind (L2.at (wpAny_bind (L3.at ?_)))))
  simp only [unlike, Bool.false_eq_true, if_false]
  cases right with
  | false =>
    ksp_lk
    refine wpAny_mono one (fun r s' q => ?_) fun _ _ e => e
    obtain ⟨v, rfl, hq⟩ := q
    ksp_lk
    exact ⟨v, rfl, hq⟩
  | true =>
    ksp_lk
    refine wpAny_mono one (fun r s' q => ?_) fun _ _ e => e
    obtain ⟨v, rfl, hq⟩ := q
    ksp_lk
    exact ⟨v, rfl, hq⟩
/-- what a number's method says of an own operand: nothing -/
theorem tryM_int {i : Int} {t : Tok} {id : String} {B : Builtin} {F : Int → Int → Sem Fin} {name : String} {R : Option Value → Shared → Prop} (slot : Slot "int" (PySem.dunder nm) id) (entry : entryFor table id = some B) (args : ∀ a b : Value, argsOk id ⟨[a, b], []⟩) (hB : B = Builtin.Int.intBinary name F)
    (hx : s.heap.get? x = some ox) (hd : ox.data = .plain) (k : R none s) : wpAny (model prog w) A (tryMethod (.int i t) (PySem.dunder nm) (.ref x)) R E s := by
  unfold tryMethod
  refine wpAny_bind (wpAny_callSpecial?_slot (typeIs_int s i t) slot (wpAny_call_entry slot (typeIs_int s i t) entry ?_ (args _ _)))
  subst hB
  show wpAny (model prog w) A.in1 ((asInt? (.ref x)) >>= fun r => _) _ _ _
  refine wpAny_bind ?_
  unfold asInt?
  refine wpAny_bind (m := load x) (nd_load hx (wpAny_pure ?_))
  rw [hd]
  refine wpAny_pure ?_
  show wpAny (model prog w) A.in1 (do rule "int.binary.not-an-int"; ret Value.notImplemented) _ _ _
  exact wpAny_bind (wpAny_rule (wpAny_pure ⟨_, rfl, wpAny_pure k⟩))
/-- on the left a whole number -/
theorem b1_io {i : Int} {t : Tok} {id : String} {B : Builtin} {F : Int → Int → Sem Fin} {name : String} (X : K.In s.heap) (I : InstAt s.heap x ox C od) (hd : ox.data = .plain) (hc : selfFirst K C = true)
    (hs : findIn K (.ref C) (PySem.dunder nm) = some (some (.ref f))) (hr : findIn K (.ref C) (dunderR nm) = some (some (.ref g))) (hg : isFn K (.ref g) = true)
    (slot : Slot "int" (PySem.dunder nm) id) (entry : entryFor table id = some B) (args : ∀ a b : Value, argsOk id ⟨[a, b], []⟩) (hB : B = Builtin.Int.intBinary name F) (fills : fillsNumberSlot (.type "int") nm = pure true) (hsub : subIn K (.ref C) (.type "int") = some false)
    (h : wpAny (model prog w) A (call (.ref g) [.ref x, .int i t]) (W.CmpBack Q) E s) : wpAny (model prog w) A (binaryOp1 nm (.int i t) (.ref x)) (fun r s' => ∃ v, r = some v ∧ Q v s') E s := by
  obtain ⟨cd, rest, hcd, hm⟩ := ksp_first hc
  have one := ksp_try X I hr hg h
  have here : s.heap.get? x = some ox := I.1
  obtain ⟨hh, gg, d, tt, os⟩ := s
  have L1 : Looks (model prog w) hh (typeOf (.int i t)) (.type "int") := Looks.of_pure rfl
  have L2 : Looks (model prog w) hh (typeOf (.ref x)) (.ref C) := I.type
  have L3 : Looks (model prog w) hh (fillsNumberSlot (.type "int") nm) true := Looks.of_pure fills
  have L4 : Looks (model prog w) hh (fillsNumberSlot (.ref C) nm) true := fills_K X hcd hm hs
  have L5 : Looks (model prog w) hh (isSubtype (.ref C) (.type "int")) false := looks_subIn X hsub
  have L7 : Looks (model prog w) hh (numberSlotInPython (.type "int") nm) false := Looks.of_pure rfl
  have unlike : (Value.type "int" == Value.ref C) = false := Bool.eq_false_iff.mpr fun q => by cases beq_iff_eq.mp q
  unfold binaryOp1
  refine wpAny_bind (L1.at (wpAny_bind (L2.at (wpAny_bind (L3.at ?_)))))
  simp only [unlike, Bool.false_eq_true, if_false]
  ksp_lk
  refine tryM_int slot entry args hB here hd ?_
  ksp_lk
  refine wpAny_mono one (fun r s' q => ?_) fun _ _ e => e
  obtain ⟨v, rfl, hq⟩ := q
  ksp_lk
  exact ⟨v, rfl, hq⟩
theorem bin_of {op : Operator} {a b : Value} (one : wpAny (model prog w) A (binaryOp1 op.info.2 a b) (fun r s' => ∃ v, r = some v ∧ Q v s') E s) : wpAny (model prog w) A (binaryOp op a b) Q E s := by
  rcases hi : op.info with ⟨sym, nm'⟩
  rw [hi] at one
  simp only [binaryOp, hi]
  refine wpAny_holding (wpAny_bind (wpAny_mono one (fun r s' q => ?_) fun _ _ e => e))
  obtain ⟨v, rfl, hq⟩ := q
  exact wpAny_pure hq
theorem inp_of {op : Operator} {a b ta : Value} (La : Looks (model prog w) s.heap (typeOf a) ta) (Lf : Looks (model prog w) s.heap (fillsInplaceSlot ta op.info.2 (op == .Add)) false)
    (one : wpAny (model prog w) A (binaryOp1 op.info.2 a b) (fun r s' => ∃ v, r = some v ∧ Q v s') E s) : wpAny (model prog w) A (inplaceOp op a b) Q E s := by
  unfold inplaceOp
  refine wpAny_holding (wpAny_bind (La.here (wpAny_bind (Lf.here ?_))))
  simp only [Bool.false_eq_true, if_false]
  refine wpAny_bind (wpAny_mono one (fun r s' q => ?_) fun _ _ e => e)
  obtain ⟨v, rfl, hq⟩ := q
  exact wpAny_pure hq
theorem noI_own {cd : ClassData} {h : Heap} {M : Model} {add : Bool} (X : K.In h) (hc : clsIn K C = some cd) (hm : cd.mro = [.ref C, .type "object"]) (h1 : findIn K (.ref C) (dunderI nm) = some none) (h2 : findIn K (.type "object") (dunderI nm) = some none) : Looks M h (fillsInplaceSlot (.ref C) nm add) false := by
  intro A Q E s k q
  have Lm : Looks M h (mroOf (.ref C)) cd.mro := (looks_clsIn X hc).andThen (f := fun cd => pure cd.mro) .now
  have Lm' := Lm.keeps k
  have X' : K.In s.heap := X.keeps k
  have L1 : Looks M s.heap (typeLookup (.ref C) (dunderI nm)) none := looks_findIn X' h1
  have L2 : Looks M s.heap (typeLookup (.type "object") (dunderI nm)) none := looks_findIn X' h2
  unfold fillsInplaceSlot
  refine wpAny_bind (Lm'.here ?_)
  rw [hm, List.anyM_cons]
  refine wpAny_bind (wpAny_bind (L1.here ?_))
  refine wpAny_pure ?_
  rw [if_neg (by decide), List.anyM_cons]
  refine wpAny_bind (wpAny_bind (L2.here ?_))
  refine wpAny_pure ?_
  rw [if_neg (by decide)]
  exact wpAny_pure q
end
end KC
set_option Elab.async false
set_option linter.all false
set_option maxRecDepth 100000
set_option maxHeartbeats 4000000
namespace KN
open PySem PySem.Spec PyProof.Rows L2 Evl
open AutoSeq1 (wpAny_loadPart')
open MeetsSeq MeetsSeq2 MeetsSeq3 SeqRoads2
/-! ### two tuples of unlike lengths, the same objects as far as both go -/
section
variable {prog : Program} {w : World} {A : Around} {R : Result → Shared → Prop}
theorem tup_longer {l b : Addr} {xs ys : Array Value} {n m : Nat} {dx dy : Option Addr} {sx sy : Array (Option Value)} {s : Shared} (size : xs.size ≠ ys.size) (same : ∀ p ∈ xs.toList.zip ys.toList, p.1 = p.2) (fin : R (.ok (.ret (.bool false))) s)
    (hl1 : s.heap.get? l = some { cls := .type "tuple", dict := dx, data := .seq xs n, slots := sx }) (hb1 : s.heap.get? b = some { cls := .type "tuple", dict := dy, data := .seq ys m, slots := sy }) :
    wpAny (model prog w) A.in1 (Builtin.«tuple.__eq__» ⟨[.ref l, .ref b], []⟩) (GQ.FinOf prog w A R) (fun e s' => R (.error e) s') s := by
  have ft := AutoSeq1.sub_tuple_tuple
  obtain ⟨hp, g, d, tk, os⟩ := s
  wp_walk using wpAny_loadPart' hl1, wpAny_loadPart' hb1, wpAny_forIn_list _ (fun rest b s' => b.1 = none ∧ s' = ⟨hp, g, d, tk, os⟩ ∧ ∀ p ∈ rest, p.1 = p.2) _
  case turn =>
    rintro ⟨y, x⟩ rest b s' ⟨nb, es, all⟩
    have e : y = x := all _ (List.mem_cons_self ..)
    subst e es
    refine wpAny_bind ((SeqAt.EqAt.same y) _ _ _ _ ?_)
    wp_walk
    exact ⟨rfl, rfl, fun p hp => all p (List.mem_cons_of_mem _ hp)⟩
  case fin =>
    rintro ⟨b1, b2⟩ s' ⟨nb, es, _⟩
    simp only at nb
    subst nb es
    wp_walk
    have no : Builtin.Tuple.tupleCompareSizes .Eq xs.size ys.size = .bool false := congrArg Value.bool (beq_false_of_ne size)
    show R (.ok (.ret (Builtin.Tuple.tupleCompareSizes .Eq xs.size ys.size))) _
    rw [no]
    exact fin
  case h => exact ⟨rfl, rfl, same⟩
end
def rTupMore (K : PySem.W.Frag) : R2 := fun x y H Q => ∃ (a b : Addr) (ps : List Addr) (more : List V), x = .ref a ∧ y = .ref b ∧ SqT K H a (ps.map V.ref ++ more) ∧ SqT K H b (ps.map V.ref) ∧ more ≠ [] ∧ Q (.bl false) H
theorem same_refs : ∀ {ps : List Addr} {more : List V} {us ws : List Value}, Vals (ps.map V.ref ++ more) us → Vals (ps.map V.ref) ws → ∀ q ∈ us.zip ws, q.1 = q.2
  | [], _, us, _, _, .nil => fun q hq => by
    rw [List.zip_nil_right] at hq
    cases hq
  | p :: ps, more, u :: us, w :: ws, .cons r1 t1, .cons r2 t2 => fun q hq => by
    rw [List.zip_cons_cons] at hq
    rcases List.mem_cons.mp hq with rfl | hq
    · exact (show u = Value.ref p from r1).trans (show w = Value.ref p from r2).symm
    · exact same_refs t1 t2 q hq
theorem op_tupMore {X : Cx} (hu : X.A.units + 64 < cLine) : OpR X (compareOp .Eq) (rTupMore X.K) := by
  intro pn s σ H x y v u Q I rx ry told
  obtain ⟨a, b, ps, more, rfl, rfl, ha, hb, some_, q⟩ := told
  cases rx
  cases ry
  obtain ⟨us, r1, ta, _⟩ := I.tuple ha
  obtain ⟨ws, r2, tb, _⟩ := I.tuple hb
  have size : us.toArray.size ≠ ws.toArray.size := fun z => some_ (by
    rw [List.size_toArray, List.size_toArray, ← r1.length, ← r2.length, List.length_append] at z
    exact List.eq_nil_of_length_eq_zero (by omega))
  obtain ⟨⟨ca, da, va, la⟩, ga, kc, n, kd⟩ := id ta
  obtain ⟨⟨cb, db, vb, lb⟩, gb, mc, m, md⟩ := id tb
  simp only at kc kd mc md
  subst kc kd mc md
  have same : ∀ p ∈ us.toArray.toList.zip ws.toArray.toList, p.1 = p.2 := by simpa using same_refs r1 r2
  show wpAny (model X.prog X.w) X.A (richCompare .Eq (.ref a) (.ref b)) (EP X pn σ Q) X.xe s
  refine wpAny_richCompare_same_room (op := .Eq) ⟨_, ga, rfl⟩ ⟨_, gb, rfl⟩ F.slot_tuple_eq (GQ.call_here F.slot_tuple_eq ⟨_, ga, rfl⟩ F.entry_tuple_eq (F.args_tuple_eq_2 _ _) ?_) (by omega)
  exact tup_longer (R := wants (fun z s' => z ≠ .notImplemented ∧ EP X pn σ Q z s') X.xe) size same ⟨(fun z => nomatch z), .bl false, H, I, rfl, q⟩ ga gb
/-- equal by their items, or longer behind the same ones -/
def rEqMore (K : PySem.W.Frag) (D : Eqv) : R2 := fun x y H Q => rEqG D x y H Q ∨ rTupMore K x y H Q
theorem op_eqMore {X : Cx} {K : PySem.W.Frag} {D : Eqv} {n : Nat} (hK : X.K = K) (h : RcG X n D) (hr : Room n X.A) : OpR X (compareOp .Eq) (rEqMore K D) := by
  subst hK
  intro pn s σ H x y v u Q I rx ry told
  rcases told with told | told
  · exact op_eqG h hr pn s σ H x y v u Q I rx ry told
  · exact op_tupMore hr.units pn s σ H x y v u Q I rx ry told
end KN
set_option Elab.async false
set_option linter.all false
set_option maxRecDepth 100000
set_option maxHeartbeats 4000000
namespace KN
open PySem PySem.Spec PyProof.Rows L2 Evl
/-! ### x op= e of own instances whose method may raise: what it lets out told for the slots as they are -/
/-- what the text tells of the class: the method, and none for op= -/
structure OwnM (K : PySem.W.Frag) (C f : Addr) (nm : String) : Prop where
  first : PySem.W.selfFirst K C = true
  hs : PySem.W.findIn K (.ref C) (PySem.dunder nm) = some (some (.ref f))
  hf : PySem.W.isFn K (.ref f) = true
  noI : ∃ cd, PySem.W.clsIn K C = some cd ∧ cd.mro = [.ref C, .type "object"]
  noF : PySem.W.findIn K (.ref C) (dunderI nm) = some none
  noO : PySem.W.findIn K (.type "object") (dunderI nm) = some none
def tAugAt (i : Nat) (C : Addr) (sp : Sp) (E : L2.St → XK) (te : TE) : TS := fun D σ H => ∃ x, σ[i]? = some (some x) ∧ te σ H fun y H1 => ∃ (p q dx dy : Addr) (fs gs : List (Str × V)), x = .ref p ∧ y = .ref q ∧ H1 p = some (.ins C dx fs) ∧ H1 q = some (.ins C dy gs) ∧ sp [.ref p, .ref q] H1 (fun z H2 => D.nx (σ.set i (some z)) H2) (E σ)
section
variable {X : Cx} {CX : CXT} {C f : Addr} {n : Nat} {sp : Sp} {E : L2.St → XK} {op : Operator}
theorem own_at (m : OwnM X.K C f op.info.2) (F : FnR X.prog X.w X.K X.mg X.base CX n f sp) (room : Room n X.A) {pn : List (Addr × Obj)} {σ : L2.St} {H : Hp} {s : Shared} {p q dx dy : Addr} {fs gs : List (Str × V)} {Q : VK} (hx : PassesAt CX X σ (E σ))
    (I : Inv X pn σ H s) (hp : H p = some (.ins C dx fs)) (hq : H q = some (.ins C dy gs)) (want : sp [.ref p, .ref q] H Q (E σ)) : wpAny (model X.prog X.w) X.A (PySem.binaryOp1 op.info.2 (.ref p) (.ref q)) (fun r s' => ∃ v, r = some v ∧ EP X pn σ Q v s') X.xe s := by
  obtain ⟨_, _, J1, _⟩ := StX.insC_at (X := X) I (.inr ⟨dx, fs, hp⟩)
  obtain ⟨_, _, J2, _⟩ := StX.insC_at (X := X) I (.inr ⟨dy, gs, hq⟩)
  have run : wpAny (model X.prog X.w) X.A (call (.ref f) [.ref p, .ref q]) (EP X pn σ Q) X.xe s := wpAny_call (codeAny_mono (F X.A X.stack s H [.ref p, .ref q] [.ref p, .ref q] Q (E σ) room I.env0 (.cons rfl (.cons rfl .nil)) want) fun rr s' got => match rr, got with
    | .error er, got => hx _ _ _ er s' I got
    | .ok (.ret u), got => I.after got)
  exact KC.b1_oo I.kIn J1 J2 m.first m.hs m.hf (wpAny_mono run (fun r s' got => by
    obtain ⟨z, H', I', rz, end_⟩ := got
    exact SlX.cmpback rz ⟨z, H', I', rz, end_⟩) fun _ _ y => y)
theorem inp_at (m : OwnM X.K C f op.info.2) (F : FnR X.prog X.w X.K X.mg X.base CX n f sp) (room : Room n X.A) {pn : List (Addr × Obj)} {σ : L2.St} {H : Hp} {s : Shared} {p q dx dy : Addr} {fs gs : List (Str × V)} {Q : VK} (hx : PassesAt CX X σ (E σ))
    (I : Inv X pn σ H s) (hp : H p = some (.ins C dx fs)) (hq : H q = some (.ins C dy gs)) (want : sp [.ref p, .ref q] H Q (E σ)) : wpAny (model X.prog X.w) X.A (inplaceOp op (.ref p) (.ref q)) (EP X pn σ Q) X.xe s := by
  obtain ⟨_, _, J1, _⟩ := StX.insC_at (X := X) I (.inr ⟨dx, fs, hp⟩)
  obtain ⟨cd, hc, hm⟩ := m.noI
  exact KC.inp_of J1.type (KC.noI_own I.kIn hc hm m.noF m.noO) (own_at m F room hx I hp hq want)
def rOwn2 (C : Addr) (sp : Sp) (E : XK) : R2 := fun x y H Q => ∃ (p q dx dy : Addr) (fs gs : List (Str × V)), x = .ref p ∧ y = .ref q ∧ H p = some (.ins C dx fs) ∧ H q = some (.ins C dy gs) ∧ sp [.ref p, .ref q] H Q E
theorem at_of {E : XK} (hx : Passes CX X E) (σ : L2.St) : PassesAt CX X σ E := fun pn H s e s' I c => hx pn σ H s e s' I c
theorem op_own2 {E : XK} (m : OwnM X.K C f op.info.2) (F : FnR X.prog X.w X.K X.mg X.base CX n f sp) (room : Room n X.A) (hx : Passes CX X E) : OpR X (binaryOp op) (rOwn2 C sp E) := by
  intro pn s σ H x y v u Q I rx ry told
  obtain ⟨p, q, dx, dy, fs, gs, rfl, rfl, hp, hq, want⟩ := told
  cases rx
  cases ry
  exact KC.bin_of (own_at (E := fun _ => E) m F room (at_of hx σ) I hp hq want)
theorem ps_augAt {i : Nat} {x : Str} {e : Expr} {te : TE} {pos pos' : Pos} (nd : X.N.Nodup) (hi : X.N[i]? = some x) (lx : X.env.scope.names.lookup x = some .local) (he : PE X e te) (m : OwnM X.K C f op.info.2) (F : FnR X.prog X.w X.K X.mg X.base CX n f sp) (room : Room n X.A) (hx : ∀ σ, PassesAt CX X σ (E σ)) :
    PS X (.AugAssign (.Name x pos') op e pos) (tAugAt i C sp E te) where
  run := fun pn s σ H D I ⟨v, slot, told⟩ => by
    obtain ⟨own, names, all⟩ := I.loc
    obtain ⟨u, rel, l⟩ := all i x v hi slot (.inl lx)
    have go : wpAny (model X.prog X.w) X.A (eval e X.env) (fun w s2 => wpAny (model X.prog X.w) X.A (inplaceOp op u w) (fun r s3 => wpAny (model X.prog X.w) X.A (storeName X.env x r) (fun _ => SP X pn D .next) X.xe s3) X.xe s2) X.xe s := thn (he.run pn s σ H _ I told) fun w s1 ⟨y, H1, I1, ry, p, q, dx, dy, fs, gs, ev, ey, hp, hq, want⟩ => by
      subst ev ey
      obtain rfl : u = Value.ref p := rel
      obtain rfl : w = Value.ref q := ry
      exact thn (inp_at m F room (hx σ) I1 hp hq want) fun z s2 ⟨zv, H2, I2, rz, q2⟩ => store_ok I2 nd hi (.inl lx) rz (fun s3 I3 => ⟨_, H2, I3, q2⟩) (.inr lx)
    refine wpAny_AugAssign_Name ?_
    rcases l with ⟨hk, hm⟩ | ⟨hk, c, hc, hcell⟩
    · exact wpAny_loadName_local I.ok.kind hk names hm go
    · rcases hk with hk | hk
      · exact wpAny_loadName_cell I.ok.kind hk hc hcell go
      · have z : X.env.scope.names.lookup x = some .free := hk
        rw [lx] at z
        cases z
end
end KN
set_option Elab.async false
set_option linter.all false
set_option maxRecDepth 100000
set_option maxHeartbeats 4000000
namespace KM
open PySem PySem.Spec PyProof.Rows L2
/-! ### own errors with an __init__ whose context is known; raised in an except suite -/
section
variable {P : Program} {w : World} {K : PySem.W.Frag} {mg : Str → Option Value} {base : Heap}
theorem cxN_imp {outer : List Env} {H : Hp} {s s' : Shared} {E : XK} {u : Value} (h : L2N.CX P w outer H s E u s') : L2.CX P w outer H s E u s' := by
  obtain ⟨a, B, H', cls, d, e, fl, r⟩ := h
  exact ⟨a, B, H', cls, d, e, L2H.flyingZ_imp (fun _ z => z.zc) fl, r⟩
theorem ofN {k : Nat} {f : Addr} {fd : FuncData} {ps : List Str} {sp : Sp} (F : FnOk P w K mg base (L2N.CX P w) k f fd ps sp) : FnOk P w K mg base (L2.CX P w) k f fd ps sp :=
  ⟨F.len, fun A outer s H args us vs Q E hr e0 hb r hs => codeAny_mono (F.run A outer s H args us vs Q E hr e0 hb r hs) fun r s' h => by
    cases r with
    | error e => exact cxN_imp h
    | ok fl => cases fl <;> exact h⟩
theorem okN {x qual : Str} {st : Stmt} {f : Addr} {fd : FuncData} {N ps : List Str} {k : Nat} {sp : Sp} (F : Fun K x qual st f fd) (S : FnScope N ps (defScope st)) (len : ∀ vs H Q E, sp vs H Q E → vs.length = ps.length)
    (hbody : ∀ (cdv : Value) (A : Around) (outer : List Env) (s : Shared) (H : Hp) (vs : List V) (Q : VK) (E : XK), Room k (A.deeper (envOfC qual (defScope st) s.heap.objs.size f cdv)) → sp vs H Q E →
      ∃ t, PSs (cxOf (L2N.CX P w) P w K mg base N qual (defScope st) f cdv A outer s H E) (defBody st) t ∧ t { nx := fun _ H' => Q .non H', rt := Q } (start N vs) H) : FnOk P w K mg base (L2N.CX P w) (k + 1) f fd ps sp := by
  obtain ⟨oc, od, kV, doc, pm, an, cdv, ct, osl, rfl, lk, hcd⟩ := F.ex
  exact fn_of lk hcd S len fun A outer s H vs Q E hr hsp => hbody cdv A outer s H vs Q E hr hsp
/-- a def that is called within an except suite -/
theorem okH {CX : CXT} {x qual : Str} {st : Stmt} {f : Addr} {fd : FuncData} {N ps : List Str} {k : Nat} {sp : Sp} (F : Fun K x qual st f fd) (S : FnScope N ps (defScope st)) (len : ∀ vs H Q E, sp vs H Q E → vs.length = ps.length)
    (hbody : ∀ (cdv : Value) (A : Around) (outer : List Env) (s : Shared) (H : Hp) (vs : List V) (Q : VK) (E : XK) (p : Addr × Obj), L2H.Hot1 A p → L2H.RoomH k (A.deeper (envOfC qual (defScope st) s.heap.objs.size f cdv)) → sp vs H Q E →
      ∃ t, PSs (L2H.cxH CX P w K mg base N qual (defScope st) f cdv A outer s H E p) (defBody st) t ∧ t { nx := fun _ H' => Q .non H', rt := Q } (start N vs) H) : L2H.FnH P w K mg base CX (k + 1) f fd ps sp := by
  obtain ⟨oc, od, kV, doc, pm, an, cdv, ct, osl, rfl, lk, hcd⟩ := F.ex
  exact L2H.fn_ofH lk hcd S len fun A outer s H vs Q E p hot hr hsp => hbody cdv A outer s H vs Q E p hot hr hsp
theorem passLN {X : Cx} : Passes (L2N.CX X.prog X.w) X E0 := fun _ _ _ _ _ _ _ h => by
  obtain ⟨_, _, _, _, _, _, _, _, _, _, _, _, z⟩ := h
  exact z.elim
end
theorem makeH {k : Nat} {A : Around} (r : L2H.RoomH (k + 1) A) (C : Addr) (us : List Value) (kw : List (Str × Value)) : L2H.RoomH k (A.under (.builtin "type.__call__" ⟨.ref C :: us, kw⟩)) :=
  ⟨by have := r.dp; rw [make_depth]; omega, by have := r.un; rw [make_units]; omega⟩
section
variable {X : Cx} {e : Expr} {es : List Expr} {ta : TA} {p pos : Pos}
theorem mk_end5 {pins : List (Addr × Obj)} {σ : L2.St} {H1 H2 : Hp} {Q : XK} {hp hp2 h2 : Heap} {g1 g2 : Array GenState} {d1 d2 : Drawn} {t1 t2 : Nat} {os1 os2 : OsState} {a C d : Addr} {fs : List (Str × V)} (T : Raises X (.ref C)) (I1 : Inv X pins σ H1 ⟨hp, g1, d1, t1, os1⟩)
    (ha : hp.objs.size ≤ a) (k : ∀ b o, hp.get? b = some o → hp2.get? b = some o) (un : Un (frs X.stack) [] (upd H1 a (exo a C none)) H2 hp2 h2) (hok : HOk X.prog X.w H2 h2) (ho : os2 = os1) (hb : AllBare g2)
    (ea : H2 a = some (exo a C (some d))) (ed : H2 d = some (exd d fs)) (hd1 : H1 d = none) (q : Q (.ref C) (some d) (upd (del H2 a) d (.xd fs))) : L2N.MkP X pins σ Q (.ref a) ⟨h2, g2, d2, t2, os2⟩ ∧ L2H.Six (.ref a) ⟨h2, g2, d2, t2, os2⟩ := by
  obtain ⟨t0, G, J, kG, ge, hoe, na⟩ := mk_end0 (d2 := d2) (t2 := t2) I1 ha k un hok ho hb ea ed hd1
  refine ⟨⟨a, _, _, ⟨G, g2, d2, t2, os2⟩, _, .ref C, some d, rfl, J, kG, ge, hoe, ⟨rfl, rfl, fun vs e => by cases e; rfl⟩, rfl, rfl, na, rfl, hb, T, q⟩, fun b oe vs eb hg hd => ?_⟩
  cases eb
  have he' : h2.get? a = some oe := hg
  rw [hoe] at he'
  cases he'
  cases hd
  show (4 : Nat) < 6
  decide
/-- an own error made by a def whose promise is told as a run; what is known of it: six fields, no context -/
theorem made_by {CX : CXT} {x : Str} {C fI : Addr} {sp : Sp} {ds : List Value} {dvs : List V} (T : OexC X.K C) (iC : PySem.W.findIn X.K (.ref C) "__init__" = some (some (.ref fI))) (tI : PySem.W.typeIn X.K (.ref fI) = some (.type "function")) (hd : Vals dvs ds)
    (len : ∀ vs H Q E, sp vs H Q E → vs.length ≤ 1000)
    (go : ∀ (pn : List (Addr × Obj)) (σ : L2.St) (H : Hp) (s : Shared) (C' : Addr) (ws us : List Value) (vs : List V) (Q : VK), Inv X pn σ H s → Vals vs (us ++ ds) → sp vs H Q (fun _ _ _ => False) → codeAny (model X.prog X.w) (X.A.under (.builtin "type.__call__" ⟨.ref C' :: ws, []⟩)) (.call (.ref fI) ⟨us, []⟩) (CR CX X.stack X.prog X.w H s Q (fun _ _ _ => False)) s)
    (hx : Passes CX X (fun _ _ _ => False)) (hg : Gl X x) (hm : X.mg x = some (.ref C)) (ha : PA X (e :: es) ta)
    (hdb : (x == ("__debug__" : Str)) = false) (he : starEach (e :: es) X.env = (false, eval e X.env) :: starEach es X.env) (hpl : (backTo pos (starEach es X.env)).any (·.1) = false) :
    L2H.PMk5 X (.Call (.Name x p) (e :: es) [] pos) (tMkO C sp dvs ta) := fun pn s0 σ H0 W I0 told => by
  obtain ⟨_, _, _, _, bm, _, _, _, _, _, _, _, _, _, _, look, refs⟩ := T.cls
  refine wpAny_Call_Name_kw (ld_glob I0 hg hm (PySem.W.callWith_K (h₀ := X.base) I0.ok.mod.kin T.kC (thn (ha.run pos pn s0 σ H0 _ I0 told) fun us s1 ⟨vs, H1, I1, rv, _, want⟩ => ⟨I1.kIn, ?_⟩) he hpl) hdb)
  obtain ⟨hp, g, dr, tk, os⟩ := s1
  show wpAny _ _ (call (.ref C) us) _ _ _
  have big := Nat.le_succ hp.objs.size
  have fresh := I1.hok.fresh big
  have goal := want _ fresh
  have J := I1.laid (t' := tk) (a := hp.objs.size + 1) (o := exo (hp.objs.size + 1) C none) (h' := (hp.push (PySem.W.kdv_tup us)).push (PySem.HandSPX.excO C hp.objs.size)) (fun _ _ y => Heap.get?_push_of_some _ (Heap.get?_push_of_some _ y)) big (exo_ok (by heap_get))
  have rel : Vals (V.ref (hp.objs.size + 1) :: (vs ++ dvs)) ((Value.ref (hp.objs.size + 1) :: us) ++ ds) := .cons rfl (rv.append hd)
  have few : us.length ≤ sizeLine := by
    have := len _ _ _ _ goal
    have e1 := rel.length
    simp only [List.length_cons, List.length_append] at this e1
    exact Nat.le_trans (show us.length ≤ 1000 by omega) (by decide)
  refine wpAny_call (PySem.HandSPX.call_own F.excBase_ValueError (fun Y => PySem.HandSPX.refsVE_contains Y bm refs) (I1.kIn _ _ look) (PySem.W.looks_findIn I1.kIn iC) (fun self => PySem.W.bind_fn I1.kIn self tI) few (codeAny_mono (go pn σ _ _ C us _ _ _ J rel goal) fun r s' got => ?_))
  match r, got with
  | .error er, got => exact hx pn σ _ _ er s' J got
  | .ok (.ret u), ⟨v, H2, o2, b2, un, ok2, r2, ev, d, fs, ea, ed, nd, q⟩ =>
    subst ev
    obtain ⟨h2, g2, d2, t2, os'⟩ := s'
    exact ⟨r2, mk_end5 (raises_own T.exC T.tyC) I1 big (fun _ _ y => Heap.get?_push_of_some _ (Heap.get?_push_of_some _ y)) un ok2 o2 b2 ea ed nd q⟩
theorem pmk_oex5 {CX : CXT} {x : Str} {C fI : Addr} {k : Nat} {fd : FuncData} {ps : List Str} {sp : Sp} {ds : List Value} {dvs : List V} (T : OexC X.K C) (iC : PySem.W.findIn X.K (.ref C) "__init__" = some (some (.ref fI))) (tI : PySem.W.typeIn X.K (.ref fI) = some (.type "function"))
    (F1 : FnOk X.prog X.w X.K X.mg X.base CX k fI fd ps sp) (hr : Room (k + 1) X.A) (hb : Binds X.K fd ps ds) (hd : Vals dvs ds) (hx : Passes CX X (fun _ _ _ => False)) (hg : Gl X x) (hm : X.mg x = some (.ref C)) (ha : PA X (e :: es) ta) (few : ps.length ≤ 1000 := by decide)
    (hdb : (x == ("__debug__" : Str)) = false := by decide) (he : starEach (e :: es) X.env = (false, eval e X.env) :: starEach es X.env := by rfl) (hpl : (backTo pos (starEach es X.env)).any (·.1) = false := by rfl) :
    L2H.PMk5 X (.Call (.Name x p) (e :: es) [] pos) (tMkO C sp dvs ta) :=
  made_by T iC tI hd (fun vs H Q E h => by rw [F1.len vs H Q E h]; exact few) (fun pn σ H s C' ws us vs Q J r h => F1.run _ X.stack s H ⟨us, []⟩ (us ++ ds) vs Q _ (hr.make C' ws []) (J.env0.make C' ws []) (hb s us J.kIn (by rw [← r.length]; exact F1.len _ _ _ _ h)) r h) hx hg hm ha hdb he hpl
/-- .. where an exception is handled -/
theorem pmk_oexH {CX : CXT} {x : Str} {C fI : Addr} {k : Nat} {fd : FuncData} {ps : List Str} {sp : Sp} {ds : List Value} {dvs : List V} (T : OexC X.K C) (iC : PySem.W.findIn X.K (.ref C) "__init__" = some (some (.ref fI))) (tI : PySem.W.typeIn X.K (.ref fI) = some (.type "function"))
    (F1 : L2H.FnH X.prog X.w X.K X.mg X.base CX k fI fd ps sp) (hr : L2H.RoomH (k + 1) X.A) (hot : L2H.HotC X) (hb : Binds X.K fd ps ds) (hd : Vals dvs ds) (hx : Passes CX X (fun _ _ _ => False)) (hg : Gl X x) (hm : X.mg x = some (.ref C)) (ha : PA X (e :: es) ta) (few : ps.length ≤ 1000 := by decide)
    (hdb : (x == ("__debug__" : Str)) = false := by decide) (he : starEach (e :: es) X.env = (false, eval e X.env) :: starEach es X.env := by rfl) (hpl : (backTo pos (starEach es X.env)).any (·.1) = false := by rfl) :
    L2H.PMk5 X (.Call (.Name x p) (e :: es) [] pos) (tMkO C sp dvs ta) :=
  made_by T iC tI hd (fun vs H Q E h => by rw [F1.len vs H Q E h]; exact few) (fun pn σ H s C' ws us vs Q J r h => by
    obtain ⟨pp, hot1, mem⟩ := hot
    obtain ⟨g1, g2, g3, g4, g5⟩ := J.pin pp (List.mem_append_left _ mem)
    exact F1.run _ X.stack s H ⟨us, []⟩ (us ++ ds) vs Q _ pp (makeH hr C' ws []) ⟨hot1.1, hot1.2⟩ ⟨g1, g2, fun z => (List.mem_cons.mp (J.stkSub pp.1 z)).elim g3 g4, g5⟩ (J.env0.make C' ws []) (hb s us J.kIn (by rw [← r.length]; exact F1.len _ _ _ _ h)) r h) hx hg hm ha hdb he hpl
end
end KM
set_option Elab.async false
set_option linter.all false
set_option maxRecDepth 100000
set_option maxHeartbeats 4000000
namespace KM
open PySem PySem.Spec PyProof.Rows L2
/-! ### a class method called within a try whose suite reads slots -/
/-- C.m(..), what it lets out told for the slots as they are -/
def tCMethS (C : Addr) (sp : Sp) (E : L2.St → XK) (ta : TE) (t : TA) : TE := fun σ H Q => ta σ H fun x H1 => x = .ref C ∧ t σ H1 fun vs H2 => sp (.ref C :: vs) H2 Q (E σ)
section
variable {X : Cx} {CX : CXT} {k : Nat} {C p g q : Addr} {mc : Value} {sp : Sp} {E : L2.St → XK} {o e : Expr} {es : List Expr} {m : Str} {pos apos : Pos} {ta : TE} {t : TA} {pl : Sem Bool}
theorem call_at {pn : List (Addr × Obj)} {σ : L2.St} {H : Hp} {s : Shared} {Q : VK} {us : List Value} {vs : List V} (F : FnR X.prog X.w X.K X.mg X.base CX k g sp) (hr : Room k X.A) (hx : PassesAt CX X σ (E σ))
    (J : Inv X ((q, PySem.W.methodObj (.ref g) (.ref C)) :: pn) σ H s) (r : Vals vs us) (h : sp (.ref C :: vs) H Q (E σ)) : wpAny (model X.prog X.w) X.A (call (.ref q) us) (EP X pn σ Q) X.xe s := by
  have run : codeAny (model X.prog X.w) X.A (.call (.ref g) ⟨.ref C :: us, []⟩) (CR CX X.stack X.prog X.w H s Q (E σ)) s := F X.A X.stack s H (.ref C :: us) (.ref C :: vs) Q (E σ) hr J.env0 (.cons rfl r) h
  have out : wpAny (model X.prog X.w) X.A (call (.ref q) us) (EP X ((q, PySem.W.methodObj (.ref g) (.ref C)) :: pn) σ Q) X.xe s := wpAny_call (PySem.W.method_call (ClX.pin_at J) (codeAny_mono run fun rr s' got => match rr, got with
    | .error er, got => hx _ _ _ er s' J got
    | .ok (.ret u), got => J.after got))
  exact thn out fun _ _ y => ClX.unpinE y
theorem pe_cmethS (he : PE X o ta) (rd : ClX.CRead X.K C mc) (cm : ClX.CMet X.K C mc m p g) (F : FnR X.prog X.w X.K X.mg X.base CX k g sp) (hr : Room k X.A) (hx : ∀ σ, PassesAt CX X σ (E σ)) (ha : PA X (e :: es) t)
    (hst : starEach (e :: es) X.env = (false, eval e X.env) :: starEach es X.env := by rfl) (hpl : (backTo pos (starEach es X.env)).any (·.1) = false := by rfl)
    (ht : eval (.Call (.Attribute o m apos) (e :: es) [] pos) X.env = (do
      let ov ← eval o X.env
      standAt apos.atName
      let (f, first) ← holding [ov] (getMethod ov m pl)
      callWith pos f first (backTo pos (starEach (e :: es) X.env)) (backToKw pos (keywordEach [] X.env))) := by rfl) :
    PE X (.Call (.Attribute o m apos) (e :: es) [] pos) (tCMethS C sp E ta t) where
  run := fun pn s0 σ H0 Q I0 h => PySem.W.methodCall_KW (pl := pl) (thn (he.run pn s0 σ H0 _ I0 h) fun cv s1 ⟨x, H1, I1, rx, ex, want⟩ => by
    subst ex
    cases rx
    exact ClX.getmethcm_ok I1 rd cm fun s2 I2 => ClX.callwith_cm I2 (ClX.base_none I1 (Nat.le_refl _)) cm.fi (thn (ha.run pos _ s2 σ H1 _ I2 want) fun us s3 ⟨vs, H2, I3, rv, q2⟩ => ⟨⟨ClX.pin_at I3, I3.kIn⟩, call_at F hr (hx σ) I3 rv q2⟩) hst hpl) ht
end
end KM
set_option Elab.async false
set_option linter.all false
set_option maxRecDepth 100000
set_option maxHeartbeats 4000000
namespace KL
open PySem L2
def top (i : Nat) : Stmt := PySem.Challenge.pw_modesdown_k08_changes_made_and_read.main.body.getD i (.Pass ⟨0, 0, 0, 0⟩)
abbrev s__wall : Stmt := top 0
abbrev s_is_whole : Stmt := top 2
abbrev s_is_whole_to : Stmt := top 3
abbrev s_is_choice : Stmt := top 4
abbrev s_BadModeD_initD : Stmt := inClass (top 9) 0
abbrev s_BadClauseD_initD : Stmt := inClass (top 10) 0
abbrev s_BadTextD_initD : Stmt := inClass (top 11) 0
abbrev s_TooManyD_initD : Stmt := inClass (top 12) 0
abbrev s_pattern_in : Stmt := top 17
abbrev s_bits_of : Stmt := top 18
abbrev s_weight_of : Stmt := top 19
abbrev s_ModeD_initD : Stmt := inClass (top 20) 1
abbrev s_Mode_read : Stmt := inClass (top 20) 2
abbrev s_Mode_of : Stmt := inClass (top 20) 3
abbrev s_Mode_uniform : Stmt := inClass (top 20) 4
abbrev s_Mode_number : Stmt := inClass (top 20) 5
abbrev s_Mode_digits : Stmt := inClass (top 20) 6
abbrev s_Mode_pattern : Stmt := inClass (top 20) 7
abbrev s_Mode_with_pattern : Stmt := inClass (top 20) 8
abbrev s_ModeD_orD : Stmt := inClass (top 20) 9
abbrev s_ModeD_rorD : Stmt := inClass (top 20) 10
abbrev s_ModeD_andD : Stmt := inClass (top 20) 11
abbrev s_ModeD_randD : Stmt := inClass (top 20) 12
abbrev s_ModeD_xorD : Stmt := inClass (top 20) 13
abbrev s_ModeD_rxorD : Stmt := inClass (top 20) 14
abbrev s_ModeD_invertD : Stmt := inClass (top 20) 15
abbrev s_ModeD_containsD : Stmt := inClass (top 20) 16
abbrev s_ModeD_lenD : Stmt := inClass (top 20) 17
abbrev s_ModeD_boolD : Stmt := inClass (top 20) 18
abbrev s_ModeD_eqD : Stmt := inClass (top 20) 19
abbrev s_ModeD_strD : Stmt := inClass (top 20) 20
abbrev s_ModeD_reprD : Stmt := inClass (top 20) 21
abbrev s_may_stand : Stmt := top 21
abbrev s_number_of : Stmt := top 22
abbrev s_is_meant : Stmt := top 28
abbrev s_pattern_behind : Stmt := top 29
abbrev s_part_of : Stmt := top 30
abbrev s_in_turn : Stmt := top 31
abbrev s_tables_of : Stmt := top 32
abbrev s_parts_for : Stmt := top 33
abbrev s_number_behind : Stmt := top 34
abbrev s_ClauseD_initD : Stmt := inClass (top 35) 0
abbrev s_Clause_read : Stmt := inClass (top 35) 1
abbrev s_Clause_who : Stmt := inClass (top 35) 2
abbrev s_Clause_sign : Stmt := inClass (top 35) 3
abbrev s_Clause_what : Stmt := inClass (top 35) 4
abbrev s_ClauseD_callD : Stmt := inClass (top 35) 5
abbrev s_ClauseD_eqD : Stmt := inClass (top 35) 6
abbrev s_ClauseD_strD : Stmt := inClass (top 35) 7
abbrev s_ChangeD_initD : Stmt := inClass (top 36) 1
abbrev s_Change_read : Stmt := inClass (top 36) 2
abbrev s_Change_setting : Stmt := inClass (top 36) 3
abbrev s_Change_clauses : Stmt := inClass (top 36) 4
abbrev s_Change_tables : Stmt := inClass (top 36) 5
abbrev s_ChangeD_callD : Stmt := inClass (top 36) 6
abbrev s_ChangeD_mulD : Stmt := inClass (top 36) 7
abbrev s_Change_like : Stmt := inClass (top 36) 8
abbrev s_Change_cycle : Stmt := inClass (top 36) 9
abbrev s_ChangeD_eqD : Stmt := inClass (top 36) 10
abbrev s_ChangeD_strD : Stmt := inClass (top 36) 11
abbrev s__law_pen : Stmt := top 38
abbrev s__law_draw : Stmt := top 39
abbrev s__law_pick : Stmt := top 40
abbrev s__law_clause : Stmt := top 41
abbrev s__law_text : Stmt := top 42
abbrev s__law_change_text : Stmt := top 43
abbrev s__law_made : Stmt := top 44
abbrev s__law_call : Stmt := top 45
abbrev s__law_heard : Stmt := top 46
abbrev s__law_shown : Stmt := top 47
abbrev s__law_is_clause : Stmt := top 48
abbrev s__law_text_due : Stmt := top 49
abbrev s__law_bent : Stmt := top 50
abbrev s__law_made_right : Stmt := top 51
abbrev s__law_joined_right : Stmt := top 52
abbrev s_law : Stmt := top 53
abbrev n_is_whole : List Str := ["value"]
theorem sc_is_whole : FnScope n_is_whole ["value"] (defScope s_is_whole) := ⟨rfl, rfl, rfl, by decide +kernel, rfl, by decide +kernel, by decide +kernel⟩
abbrev n_is_whole_to : List Str := ["value", "most"]
theorem sc_is_whole_to : FnScope n_is_whole_to ["value", "most"] (defScope s_is_whole_to) := ⟨rfl, rfl, rfl, by decide +kernel, rfl, by decide +kernel, by decide +kernel⟩
abbrev n_is_choice : List Str := ["value", "letters", "letter"]
theorem sc_is_choice : FnScope n_is_choice ["value", "letters"] (defScope s_is_choice) := ⟨rfl, rfl, rfl, by decide +kernel, rfl, by decide +kernel, by decide +kernel⟩
abbrev n_BadModeD_initD : List Str := ["self", "part"]
theorem sc_BadModeD_initD : FnScope n_BadModeD_initD ["self", "part"] (defScope s_BadModeD_initD) := ⟨rfl, rfl, rfl, by decide +kernel, rfl, by decide +kernel, by decide +kernel⟩
abbrev n_BadClauseD_initD : List Str := ["self", "at"]
theorem sc_BadClauseD_initD : FnScope n_BadClauseD_initD ["self", "at"] (defScope s_BadClauseD_initD) := ⟨rfl, rfl, rfl, by decide +kernel, rfl, by decide +kernel, by decide +kernel⟩
abbrev n_BadTextD_initD : List Str := ["self", "line", "word"]
theorem sc_BadTextD_initD : FnScope n_BadTextD_initD ["self", "line", "word"] (defScope s_BadTextD_initD) := ⟨rfl, rfl, rfl, by decide +kernel, rfl, by decide +kernel, by decide +kernel⟩
abbrev n_TooManyD_initD : List Str := ["self", "most"]
theorem sc_TooManyD_initD : FnScope n_TooManyD_initD ["self", "most"] (defScope s_TooManyD_initD) := ⟨rfl, rfl, rfl, by decide +kernel, rfl, by decide +kernel, by decide +kernel⟩
abbrev n_pattern_in : List Str := ["number", "weight", "bits"]
theorem sc_pattern_in : FnScope n_pattern_in ["number", "weight"] (defScope s_pattern_in) := ⟨rfl, rfl, rfl, by decide +kernel, rfl, by decide +kernel, by decide +kernel⟩
abbrev n_bits_of : List Str := ["pattern", "weight"]
theorem sc_bits_of : FnScope n_bits_of ["pattern", "weight"] (defScope s_bits_of) := ⟨rfl, rfl, rfl, by decide +kernel, rfl, by decide +kernel, by decide +kernel⟩
abbrev n_weight_of : List Str := ["letter"]
theorem sc_weight_of : FnScope n_weight_of ["letter"] (defScope s_weight_of) := ⟨rfl, rfl, rfl, by decide +kernel, rfl, by decide +kernel, by decide +kernel⟩
abbrev n_may_stand : List Str := ["value"]
theorem sc_may_stand : FnScope n_may_stand ["value"] (defScope s_may_stand) := ⟨rfl, rfl, rfl, by decide +kernel, rfl, by decide +kernel, by decide +kernel⟩
abbrev n_number_of : List Str := ["mode"]
theorem sc_number_of : FnScope n_number_of ["mode"] (defScope s_number_of) := ⟨rfl, rfl, rfl, by decide +kernel, rfl, by decide +kernel, by decide +kernel⟩
abbrev n_is_meant : List Str := ["what", "letter", "pattern", "form"]
theorem sc_is_meant : FnScope n_is_meant ["what", "letter", "pattern", "form"] (defScope s_is_meant) := ⟨rfl, rfl, rfl, by decide +kernel, rfl, by decide +kernel, by decide +kernel⟩
abbrev n_pattern_behind : List Str := ["mask", "sign", "meant", "pattern"]
theorem sc_pattern_behind : FnScope n_pattern_behind ["mask", "sign", "meant", "pattern"] (defScope s_pattern_behind) := ⟨rfl, rfl, rfl, by decide +kernel, rfl, by decide +kernel, by decide +kernel⟩
abbrev n_part_of : List Str := ["who", "sign", "what", "letter", "form", "mask", "told", "pattern"]
theorem sc_part_of : FnScope n_part_of ["who", "sign", "what", "letter", "form"] (defScope s_part_of) := ⟨rfl, rfl, rfl, by decide +kernel, rfl, by decide +kernel, by decide +kernel⟩
abbrev n_in_turn : List Str := ["one", "other", "first", "later", "pattern"]
theorem sc_in_turn : FnScope n_in_turn ["one", "other"] (defScope s_in_turn) := ⟨rfl, rfl, rfl, by decide +kernel, rfl, by decide +kernel, by decide +kernel⟩
abbrev n_tables_of : List Str := ["clauses", "tables", "clause"]
theorem sc_tables_of : FnScope n_tables_of ["clauses"] (defScope s_tables_of) := ⟨rfl, rfl, rfl, by decide +kernel, rfl, by decide +kernel, by decide +kernel⟩
abbrev n_parts_for : List Str := ["tables", "form"]
theorem sc_parts_for : FnScope n_parts_for ["tables", "form"] (defScope s_parts_for) := ⟨rfl, rfl, rfl, by decide +kernel, rfl, by decide +kernel, by decide +kernel⟩
abbrev n_number_behind : List Str := ["tables", "number", "form", "reads", "writes", "enters"]
theorem sc_number_behind : FnScope n_number_behind ["tables", "number", "form"] (defScope s_number_behind) := ⟨rfl, rfl, rfl, by decide +kernel, rfl, by decide +kernel, by decide +kernel⟩
abbrev n_ClauseD_initD : List Str := ["self", "who", "sign", "what", "letter", "form"]
theorem sc_ClauseD_initD : FnScope n_ClauseD_initD ["self", "who", "sign", "what"] (defScope s_ClauseD_initD) := ⟨rfl, rfl, rfl, by decide +kernel, rfl, by decide +kernel, by decide +kernel⟩
abbrev n_Clause_read : List Str := ["cls", "text", "at", "sign"]
theorem sc_Clause_read : FnScope n_Clause_read ["cls", "text"] (defScope s_Clause_read) := ⟨rfl, rfl, rfl, by decide +kernel, rfl, by decide +kernel, by decide +kernel⟩
abbrev n_Clause_who : List Str := ["self"]
theorem sc_Clause_who : FnScope n_Clause_who ["self"] (defScope s_Clause_who) := ⟨rfl, rfl, rfl, by decide +kernel, rfl, by decide +kernel, by decide +kernel⟩
abbrev n_Clause_sign : List Str := ["self"]
theorem sc_Clause_sign : FnScope n_Clause_sign ["self"] (defScope s_Clause_sign) := ⟨rfl, rfl, rfl, by decide +kernel, rfl, by decide +kernel, by decide +kernel⟩
abbrev n_Clause_what : List Str := ["self"]
theorem sc_Clause_what : FnScope n_Clause_what ["self"] (defScope s_Clause_what) := ⟨rfl, rfl, rfl, by decide +kernel, rfl, by decide +kernel, by decide +kernel⟩
abbrev n_ClauseD_callD : List Str := ["self", "mode", "form"]
theorem sc_ClauseD_callD : FnScope n_ClauseD_callD ["self", "mode", "form"] (defScope s_ClauseD_callD) := ⟨rfl, rfl, rfl, by decide +kernel, rfl, by decide +kernel, by decide +kernel⟩
abbrev n_ClauseD_eqD : List Str := ["self", "other"]
theorem sc_ClauseD_eqD : FnScope n_ClauseD_eqD ["self", "other"] (defScope s_ClauseD_eqD) := ⟨rfl, rfl, rfl, by decide +kernel, rfl, by decide +kernel, by decide +kernel⟩
abbrev n_ClauseD_strD : List Str := ["self", "who"]
theorem sc_ClauseD_strD : FnScope n_ClauseD_strD ["self"] (defScope s_ClauseD_strD) := ⟨rfl, rfl, rfl, by decide +kernel, rfl, by decide +kernel, by decide +kernel⟩
abbrev n_Change_read : List Str := ["cls", "text", "parts", "clauses", "at", "part"]
theorem sc_Change_read : FnScope n_Change_read ["cls", "text"] (defScope s_Change_read) := ⟨rfl, rfl, rfl, by decide +kernel, rfl, by decide +kernel, by decide +kernel⟩
abbrev n_Change_setting : List Str := ["mode"]
theorem sc_Change_setting : FnScope n_Change_setting ["mode"] (defScope s_Change_setting) := ⟨rfl, rfl, rfl, by decide +kernel, rfl, by decide +kernel, by decide +kernel⟩
abbrev n_Change_clauses : List Str := ["self"]
theorem sc_Change_clauses : FnScope n_Change_clauses ["self"] (defScope s_Change_clauses) := ⟨rfl, rfl, rfl, by decide +kernel, rfl, by decide +kernel, by decide +kernel⟩
abbrev n_Change_tables : List Str := ["self"]
theorem sc_Change_tables : FnScope n_Change_tables ["self"] (defScope s_Change_tables) := ⟨rfl, rfl, rfl, by decide +kernel, rfl, by decide +kernel, by decide +kernel⟩
abbrev n_ChangeD_callD : List Str := ["self", "mode", "form"]
theorem sc_ChangeD_callD : FnScope n_ChangeD_callD ["self", "mode", "form"] (defScope s_ChangeD_callD) := ⟨rfl, rfl, rfl, by decide +kernel, rfl, by decide +kernel, by decide +kernel⟩
abbrev n_ChangeD_mulD : List Str := ["self", "other", "clauses"]
theorem sc_ChangeD_mulD : FnScope n_ChangeD_mulD ["self", "other"] (defScope s_ChangeD_mulD) := ⟨rfl, rfl, rfl, by decide +kernel, rfl, by decide +kernel, by decide +kernel⟩
abbrev n_Change_like : List Str := ["self", "other"]
theorem sc_Change_like : FnScope n_Change_like ["self", "other"] (defScope s_Change_like) := ⟨rfl, rfl, rfl, by decide +kernel, rfl, by decide +kernel, by decide +kernel⟩
abbrev n_Change_cycle : List Str := ["self", "form"]
theorem sc_Change_cycle : FnScope n_Change_cycle ["self", "form"] (defScope s_Change_cycle) := ⟨rfl, rfl, rfl, by decide +kernel, rfl, by decide +kernel, by decide +kernel⟩
abbrev n_ChangeD_eqD : List Str := ["self", "other"]
theorem sc_ChangeD_eqD : FnScope n_ChangeD_eqD ["self", "other"] (defScope s_ChangeD_eqD) := ⟨rfl, rfl, rfl, by decide +kernel, rfl, by decide +kernel, by decide +kernel⟩
abbrev n_ChangeD_strD : List Str := ["self", "clause"]
theorem sc_ChangeD_strD : FnScope n_ChangeD_strD ["self"] (defScope s_ChangeD_strD) := ⟨rfl, rfl, rfl, by decide +kernel, rfl, by decide +kernel, by decide +kernel⟩
abbrev n__law_pen : List Str := ["_law_script"]
theorem sc__law_pen : FnScope n__law_pen ["_law_script"] (defScope s__law_pen) := ⟨rfl, rfl, rfl, by decide +kernel, rfl, by decide +kernel, by decide +kernel⟩
abbrev n__law_draw : List Str := ["_law_pen_here", "_law_many", "_law_digit", "_law_at", "_law_cell", "_law_great", "_law_mixed"]
theorem sc__law_draw : FnScope n__law_draw ["_law_pen_here", "_law_many"] (defScope s__law_draw) := ⟨rfl, rfl, rfl, by decide +kernel, rfl, by decide +kernel, by decide +kernel⟩
abbrev n__law_pick : List Str := ["_law_pen_here", "_law_some"]
theorem sc__law_pick : FnScope n__law_pick ["_law_pen_here", "_law_some"] (defScope s__law_pick) := ⟨rfl, rfl, rfl, by decide +kernel, rfl, by decide +kernel, by decide +kernel⟩
abbrev n__law_clause : List Str := ["_law_pen_here", "_law_who", "_law_what"]
theorem sc__law_clause : FnScope n__law_clause ["_law_pen_here"] (defScope s__law_clause) := ⟨rfl, rfl, rfl, by decide +kernel, rfl, by decide +kernel, by decide +kernel⟩
abbrev n__law_text : List Str := ["_law_told"]
theorem sc__law_text : FnScope n__law_text ["_law_told"] (defScope s__law_text) := ⟨rfl, rfl, rfl, by decide +kernel, rfl, by decide +kernel, by decide +kernel⟩
abbrev n__law_change_text : List Str := ["_law_change", "_law_told"]
theorem sc__law_change_text : FnScope n__law_change_text ["_law_change"] (defScope s__law_change_text) := ⟨rfl, rfl, rfl, by decide +kernel, rfl, by decide +kernel, by decide +kernel⟩
abbrev n__law_made : List Str := ["_law_change", "_law_told"]
theorem sc__law_made : FnScope n__law_made ["_law_change"] (defScope s__law_made) := ⟨rfl, rfl, rfl, by decide +kernel, rfl, by decide +kernel, by decide +kernel⟩
abbrev n__law_call : List Str := ["_law_p"]
theorem sc__law_call : FnScope n__law_call ["_law_p"] (defScope s__law_call) := ⟨rfl, rfl, rfl, by decide +kernel, rfl, by decide +kernel, by decide +kernel⟩
abbrev n__law_heard : List Str := ["_law_ask", "_law_caught", "_law_found", "error"]
theorem sc__law_heard : FnScope n__law_heard ["_law_ask"] (defScope s__law_heard) := ⟨rfl, rfl, rfl, by decide +kernel, rfl, by decide +kernel, by decide +kernel⟩
abbrev n__law_shown : List Str := ["_law_change", "_law_clause_here"]
theorem sc__law_shown : FnScope n__law_shown ["_law_change"] (defScope s__law_shown) := ⟨rfl, rfl, rfl, by decide +kernel, rfl, by decide +kernel, by decide +kernel⟩
abbrev n__law_is_clause : List Str := ["_law_text_so", "_law_places", "_law_who", "_law_what", "_law_at", "_law_sign"]
theorem sc__law_is_clause : FnScope n__law_is_clause ["_law_text_so"] (defScope s__law_is_clause) := ⟨rfl, rfl, rfl, by decide +kernel, rfl, by decide +kernel, by decide +kernel⟩
abbrev n__law_text_due : List Str := ["_law_text_so", "_law_parts", "_law_wrong", "_law_at"]
theorem sc__law_text_due : FnScope n__law_text_due ["_law_text_so"] (defScope s__law_text_due) := ⟨rfl, rfl, rfl, by decide +kernel, rfl, by decide +kernel, by decide +kernel⟩
abbrev n__law_bent : List Str := ["_law_pen_here", "_law_text_so", "_law_parts", "_law_at", "_law_some", "_law_way", "_law_word"]
theorem sc__law_bent : FnScope n__law_bent ["_law_pen_here", "_law_text_so"] (defScope s__law_bent) := ⟨rfl, rfl, rfl, by decide +kernel, rfl, by decide +kernel, by decide +kernel⟩
abbrev n__law_made_right : List Str := ["_law_pen_here", "_law_odd", "_law_told", "_law_spot", "_law_due", "_law_wrong", "_law_heard_here", "_law_some", "_law_k", "_law_at"]
theorem sc__law_made_right : FnScope n__law_made_right ["_law_pen_here"] (defScope s__law_made_right) := ⟨rfl, rfl, rfl, by decide +kernel, rfl, by decide +kernel, by decide +kernel⟩
abbrev n__law_joined_right : List Str := ["_law_pen_here", "_law_told", "_law_change", "_law_more", "_law_heard_here", "_law_second", "_law_caught", "error", "_law_other", "_law_k", "_law_one"]
theorem sc__law_joined_right : FnScope n__law_joined_right ["_law_pen_here", "_law_told", "_law_change"] (defScope s__law_joined_right) := ⟨rfl, rfl, rfl, by decide +kernel, rfl, by decide +kernel, by decide +kernel⟩
abbrev n_law : List Str := ["_law_script", "_law_pen_here", "_law_turn", "_law_told", "_law_change", "_law_page", "_law_thing", "_law_due", "_law_heard_here", "_law_bent_here", "_law_k"]
theorem sc_law : FnScope n_law ["_law_script"] (defScope s_law) := ⟨rfl, rfl, rfl, by decide +kernel, rfl, by decide +kernel, by decide +kernel⟩
abbrev n_ChangeD_initD : List Str := ["self", "clauses", "at", "clause"]
end KL
set_option Elab.async false
set_option linter.all false
set_option maxRecDepth 100000
set_option maxHeartbeats 4000000
namespace KL
open PySem PySem.Spec PyProof.Rows L2 Evl
def whats : List Str := ["r", "w", "x", "X", "rw", "rx", "rX", "wx", "wX", "xX", "rwx", "rwX", "rxX", "wxX", "rwxX", ""]
structure Ads where
  f_is_choice : Addr
  d_is_choice : FuncData
  f_is_meant : Addr
  d_is_meant : FuncData
  f_pattern_behind : Addr
  d_pattern_behind : FuncData
  f_part_of : Addr
  d_part_of : FuncData
  f_in_turn : Addr
  d_in_turn : FuncData
  f_tables_of : Addr
  d_tables_of : FuncData
  f__law_pen : Addr
  d__law_pen : FuncData
  f__law_draw : Addr
  d__law_draw : FuncData
  f__law_pick : Addr
  d__law_pick : FuncData
  f__law_clause : Addr
  d__law_clause : FuncData
  f__law_text : Addr
  d__law_text : FuncData
  f__law_change_text : Addr
  d__law_change_text : FuncData
  f__law_made : Addr
  d__law_made : FuncData
  f__law_call : Addr
  d__law_call : FuncData
  f__law_heard : Addr
  d__law_heard : FuncData
  f__law_shown : Addr
  d__law_shown : FuncData
  f__law_is_clause : Addr
  d__law_is_clause : FuncData
  f__law_text_due : Addr
  d__law_text_due : FuncData
  f__law_bent : Addr
  d__law_bent : FuncData
  f__law_made_right : Addr
  d__law_made_right : FuncData
  f__law_joined_right : Addr
  d__law_joined_right : FuncData
  f_Clause : Addr
  f_ClauseD_initD : Addr
  d_ClauseD_initD : FuncData
  f_Clause_who : Addr
  d_Clause_who : FuncData
  p_Clause_who : Addr
  f_Clause_sign : Addr
  d_Clause_sign : FuncData
  p_Clause_sign : Addr
  f_Clause_what : Addr
  d_Clause_what : FuncData
  p_Clause_what : Addr
  f_ClauseD_strD : Addr
  d_ClauseD_strD : FuncData
  f_ClauseD_eqD : Addr
  d_ClauseD_eqD : FuncData
  f_Clause_read : Addr
  d_Clause_read : FuncData
  p_Clause_read : Addr
  f_Change : Addr
  f_ChangeD_initD : Addr
  d_ChangeD_initD : FuncData
  f_Change_clauses : Addr
  d_Change_clauses : FuncData
  p_Change_clauses : Addr
  f_ChangeD_strD : Addr
  d_ChangeD_strD : FuncData
  f_ChangeD_eqD : Addr
  d_ChangeD_eqD : FuncData
  f_ChangeD_mulD : Addr
  d_ChangeD_mulD : FuncData
  f_Change_read : Addr
  d_Change_read : FuncData
  p_Change_read : Addr
  k_SIGNS : Addr
  k_CLASSES : Addr
  k_PATTERNS : Addr
  k_PARTS : Addr
  x_BadClause : Addr
  f_BadClauseD_initD : Addr
  d_BadClauseD_initD : FuncData
  x_TooMany : Addr
  f_TooManyD_initD : Addr
  d_TooManyD_initD : FuncData
  x_NoWay : Addr
  x_ModesError : Addr
  cA : Addr
  cM : Addr
  cJ : Addr
  P0 : Addr
  PM : Addr
  PJ : Addr
structure Txt (w : World) (K : PySem.W.Frag) (mg : Str → Option Value) (a : Ads) : Prop where
  b_isinstance : mg "isinstance" = none
  b_int : mg "int" = none
  b_bool : mg "bool" = none
  b_str : mg "str" = none
  b_sum : mg "sum" = none
  b_tuple : mg "tuple" = none
  b_list : mg "list" = none
  b_len : mg "len" = none
  b_abs : mg "abs" = none
  b_range : mg "range" = none
  b_enumerate : mg "enumerate" = none
  b_repr : mg "repr" = none
  b_zip : mg "zip" = none
  mg_is_choice : mg "is_choice" = some (.ref a.f_is_choice)
  fn_is_choice : Fun K "is_choice" "is_choice" s_is_choice a.f_is_choice a.d_is_choice
  mg_is_meant : mg "is_meant" = some (.ref a.f_is_meant)
  fn_is_meant : Fun K "is_meant" "is_meant" s_is_meant a.f_is_meant a.d_is_meant
  mg_pattern_behind : mg "pattern_behind" = some (.ref a.f_pattern_behind)
  fn_pattern_behind : Fun K "pattern_behind" "pattern_behind" s_pattern_behind a.f_pattern_behind a.d_pattern_behind
  mg_part_of : mg "part_of" = some (.ref a.f_part_of)
  fn_part_of : Fun K "part_of" "part_of" s_part_of a.f_part_of a.d_part_of
  mg_in_turn : mg "in_turn" = some (.ref a.f_in_turn)
  fn_in_turn : Fun K "in_turn" "in_turn" s_in_turn a.f_in_turn a.d_in_turn
  mg_tables_of : mg "tables_of" = some (.ref a.f_tables_of)
  fn_tables_of : Fun K "tables_of" "tables_of" s_tables_of a.f_tables_of a.d_tables_of
  mg__law_pen : mg "_law_pen" = some (.ref a.f__law_pen)
  fn__law_pen : Fun K "_law_pen" "_law_pen" s__law_pen a.f__law_pen a.d__law_pen
  mg__law_draw : mg "_law_draw" = some (.ref a.f__law_draw)
  fn__law_draw : Fun K "_law_draw" "_law_draw" s__law_draw a.f__law_draw a.d__law_draw
  mg__law_pick : mg "_law_pick" = some (.ref a.f__law_pick)
  fn__law_pick : Fun K "_law_pick" "_law_pick" s__law_pick a.f__law_pick a.d__law_pick
  mg__law_clause : mg "_law_clause" = some (.ref a.f__law_clause)
  fn__law_clause : Fun K "_law_clause" "_law_clause" s__law_clause a.f__law_clause a.d__law_clause
  mg__law_text : mg "_law_text" = some (.ref a.f__law_text)
  fn__law_text : Fun K "_law_text" "_law_text" s__law_text a.f__law_text a.d__law_text
  mg__law_change_text : mg "_law_change_text" = some (.ref a.f__law_change_text)
  fn__law_change_text : Fun K "_law_change_text" "_law_change_text" s__law_change_text a.f__law_change_text a.d__law_change_text
  mg__law_made : mg "_law_made" = some (.ref a.f__law_made)
  fn__law_made : Fun K "_law_made" "_law_made" s__law_made a.f__law_made a.d__law_made
  mg__law_call : mg "_law_call" = some (.ref a.f__law_call)
  fn__law_call : Fun K "_law_call" "_law_call" s__law_call a.f__law_call a.d__law_call
  mg__law_heard : mg "_law_heard" = some (.ref a.f__law_heard)
  fn__law_heard : Fun K "_law_heard" "_law_heard" s__law_heard a.f__law_heard a.d__law_heard
  mg__law_shown : mg "_law_shown" = some (.ref a.f__law_shown)
  fn__law_shown : Fun K "_law_shown" "_law_shown" s__law_shown a.f__law_shown a.d__law_shown
  mg__law_is_clause : mg "_law_is_clause" = some (.ref a.f__law_is_clause)
  fn__law_is_clause : Fun K "_law_is_clause" "_law_is_clause" s__law_is_clause a.f__law_is_clause a.d__law_is_clause
  mg__law_text_due : mg "_law_text_due" = some (.ref a.f__law_text_due)
  fn__law_text_due : Fun K "_law_text_due" "_law_text_due" s__law_text_due a.f__law_text_due a.d__law_text_due
  mg__law_bent : mg "_law_bent" = some (.ref a.f__law_bent)
  fn__law_bent : Fun K "_law_bent" "_law_bent" s__law_bent a.f__law_bent a.d__law_bent
  mg__law_made_right : mg "_law_made_right" = some (.ref a.f__law_made_right)
  fn__law_made_right : Fun K "_law_made_right" "_law_made_right" s__law_made_right a.f__law_made_right a.d__law_made_right
  mg__law_joined_right : mg "_law_joined_right" = some (.ref a.f__law_joined_right)
  fn__law_joined_right : Fun K "_law_joined_right" "_law_joined_right" s__law_joined_right a.f__law_joined_right a.d__law_joined_right
  mg_Clause : mg "Clause" = some (.ref a.f_Clause)
  c_Clause : Cls K a.f_Clause
  n_who_Clause : NoAttr K a.f_Clause "_who"
  n_sign_Clause : NoAttr K a.f_Clause "_sign"
  n_what_Clause : NoAttr K a.f_Clause "_what"
  n_tables_Clause : NoAttr K a.f_Clause "_tables"
  mk_Clause : Mk K a.f_Clause a.f_ClauseD_initD
  fn_ClauseD_initD : Fun K "__init__" "Clause.__init__" s_ClauseD_initD a.f_ClauseD_initD a.d_ClauseD_initD
  p_Clause_who : PropOf K a.f_Clause "who" a.p_Clause_who a.f_Clause_who
  fn_Clause_who : Fun K "who" "Clause.who" s_Clause_who a.f_Clause_who a.d_Clause_who
  p_Clause_sign : PropOf K a.f_Clause "sign" a.p_Clause_sign a.f_Clause_sign
  fn_Clause_sign : Fun K "sign" "Clause.sign" s_Clause_sign a.f_Clause_sign a.d_Clause_sign
  p_Clause_what : PropOf K a.f_Clause "what" a.p_Clause_what a.f_Clause_what
  fn_Clause_what : Fun K "what" "Clause.what" s_Clause_what a.f_Clause_what a.d_Clause_what
  m_ClauseD_strD : Meth K a.f_Clause "__str__" a.f_ClauseD_strD
  fn_ClauseD_strD : Fun K "__str__" "Clause.__str__" s_ClauseD_strD a.f_ClauseD_strD a.d_ClauseD_strD
  m_ClauseD_eqD : Meth K a.f_Clause "__eq__" a.f_ClauseD_eqD
  fn_ClauseD_eqD : Fun K "__eq__" "Clause.__eq__" s_ClauseD_eqD a.f_ClauseD_eqD a.d_ClauseD_eqD
  m_Clause_read : ClX.CMet K a.f_Clause (.type "type") "read" a.p_Clause_read a.f_Clause_read
  fn_Clause_read : Fun K "read" "Clause.read" s_Clause_read a.f_Clause_read a.d_Clause_read
  r_Clause : ClX.CRead K a.f_Clause (.type "type")
  ia_Clause : PySem.W.findIn K (.ref a.f_Clause) "__class__" = some (some (.builtin "object.__class__"))
  im_Clause : PySem.W.mroIn K a.f_Clause (.type "object") = some true
  is_Clause : PySem.W.kitOne K (.ref a.f_Clause) (.ref a.f_Clause) = some true
  nt_Clause_str : PySem.W.kitOne K (.type "str") (.ref a.f_Clause) = some false
  nf_Clause_str : PySem.W.notFirst K a.f_Clause (.type "str") = true
  nt_Clause_tuple : PySem.W.kitOne K (.type "tuple") (.ref a.f_Clause) = some false
  nf_Clause_tuple : PySem.W.notFirst K a.f_Clause (.type "tuple") = true
  nt_Clause_int : PySem.W.kitOne K (.type "int") (.ref a.f_Clause) = some false
  nf_Clause_int : PySem.W.notFirst K a.f_Clause (.type "int") = true
  nt_Clause_NoneType : PySem.W.kitOne K (.type "NoneType") (.ref a.f_Clause) = some false
  nf_Clause_NoneType : PySem.W.notFirst K a.f_Clause (.type "NoneType") = true
  nt_Clause_list : PySem.W.kitOne K (.type "list") (.ref a.f_Clause) = some false
  nf_Clause_list : PySem.W.notFirst K a.f_Clause (.type "list") = true
  nt_Clause_dict : PySem.W.kitOne K (.type "dict") (.ref a.f_Clause) = some false
  nf_Clause_dict : PySem.W.notFirst K a.f_Clause (.type "dict") = true
  nt_Clause_bool : PySem.W.kitOne K (.type "bool") (.ref a.f_Clause) = some false
  nf_Clause_bool : PySem.W.notFirst K a.f_Clause (.type "bool") = true
  en_Clause : PySem.W.findIn K (.ref a.f_Clause) "__ne__" = some (some (.builtin "object.__ne__"))
  mg_Change : mg "Change" = some (.ref a.f_Change)
  c_Change : Cls K a.f_Change
  n_clauses_Change : NoAttr K a.f_Change "_clauses"
  n_tables_Change : NoAttr K a.f_Change "_tables"
  mk_Change : Mk K a.f_Change a.f_ChangeD_initD
  fn_ChangeD_initD : Fun K "__init__" "Change.__init__" s_ChangeD_initD a.f_ChangeD_initD a.d_ChangeD_initD
  p_Change_clauses : PropOf K a.f_Change "clauses" a.p_Change_clauses a.f_Change_clauses
  fn_Change_clauses : Fun K "clauses" "Change.clauses" s_Change_clauses a.f_Change_clauses a.d_Change_clauses
  m_ChangeD_strD : Meth K a.f_Change "__str__" a.f_ChangeD_strD
  fn_ChangeD_strD : Fun K "__str__" "Change.__str__" s_ChangeD_strD a.f_ChangeD_strD a.d_ChangeD_strD
  m_ChangeD_eqD : Meth K a.f_Change "__eq__" a.f_ChangeD_eqD
  fn_ChangeD_eqD : Fun K "__eq__" "Change.__eq__" s_ChangeD_eqD a.f_ChangeD_eqD a.d_ChangeD_eqD
  m_ChangeD_mulD : Meth K a.f_Change "__mul__" a.f_ChangeD_mulD
  fn_ChangeD_mulD : Fun K "__mul__" "Change.__mul__" s_ChangeD_mulD a.f_ChangeD_mulD a.d_ChangeD_mulD
  m_Change_read : ClX.CMet K a.f_Change (.type "type") "read" a.p_Change_read a.f_Change_read
  fn_Change_read : Fun K "read" "Change.read" s_Change_read a.f_Change_read a.d_Change_read
  r_Change : ClX.CRead K a.f_Change (.type "type")
  k_Change_MOST : ∃ t, ClX.CVal K a.f_Change (.type "type") "MOST" (.int 8) (.int 8 t)
  sf_Change : PySem.W.selfFirst K a.f_Change = true
  ia_Change : PySem.W.findIn K (.ref a.f_Change) "__class__" = some (some (.builtin "object.__class__"))
  im_Change : PySem.W.mroIn K a.f_Change (.type "object") = some true
  is_Change : PySem.W.kitOne K (.ref a.f_Change) (.ref a.f_Change) = some true
  nt_Change_str : PySem.W.kitOne K (.type "str") (.ref a.f_Change) = some false
  nf_Change_str : PySem.W.notFirst K a.f_Change (.type "str") = true
  nt_Change_tuple : PySem.W.kitOne K (.type "tuple") (.ref a.f_Change) = some false
  nf_Change_tuple : PySem.W.notFirst K a.f_Change (.type "tuple") = true
  nt_Change_int : PySem.W.kitOne K (.type "int") (.ref a.f_Change) = some false
  nf_Change_int : PySem.W.notFirst K a.f_Change (.type "int") = true
  nt_Change_NoneType : PySem.W.kitOne K (.type "NoneType") (.ref a.f_Change) = some false
  nf_Change_NoneType : PySem.W.notFirst K a.f_Change (.type "NoneType") = true
  nt_Change_list : PySem.W.kitOne K (.type "list") (.ref a.f_Change) = some false
  nf_Change_list : PySem.W.notFirst K a.f_Change (.type "list") = true
  nt_Change_dict : PySem.W.kitOne K (.type "dict") (.ref a.f_Change) = some false
  nf_Change_dict : PySem.W.notFirst K a.f_Change (.type "dict") = true
  nt_Change_bool : PySem.W.kitOne K (.type "bool") (.ref a.f_Change) = some false
  nf_Change_bool : PySem.W.notFirst K a.f_Change (.type "bool") = true
  en_Change : PySem.W.findIn K (.ref a.f_Change) "__ne__" = some (some (.builtin "object.__ne__"))
  in_ : PySem.W.specialIn K (.builtin "object.__class__") "__get__" = some (some (.builtin "getset_descriptor.__get__"))
  it_ : PySem.W.takesIn K (.builtin "object.__class__") = some true
  mg_SIGNS : mg "SIGNS" = some (.ref a.k_SIGNS)
  t_SIGNS : ∀ H, SqT K H a.k_SIGNS [.str "+", .str "-", .str "="]
  mg_PATTERNS : mg "PATTERNS" = some (.ref a.k_PATTERNS)
  t_PATTERNS : ∀ H, SqT K H a.k_PATTERNS ([0, 1, 2, 3, 4, 5, 6, 7].map V.int)
  mg_PARTS : mg "PARTS" = some (.ref a.k_PARTS)
  t_PARTS : ∀ H, ∃ p1 p2 p3 p4 : Addr, SqT K H a.k_PARTS [.ref p1, .ref p2, .ref p3, .ref p4] ∧ SqT K H p1 [.str "r", .str "file"] ∧ SqT K H p2 [.str "w", .str "file"] ∧ SqT K H p3 [.str "x", .str "file"] ∧ SqT K H p4 [.str "x", .str "folder"]
  mg_CLASSES : mg "CLASSES" = some (.ref a.k_CLASSES)
  d_CLASSES : ∃ es n, KDict K w a.k_CLASSES es n ∧ (∃ t, PySem.W.nsIn K a.k_CLASSES "u" = some (some (.int 4 t))) ∧ (∃ t, PySem.W.nsIn K a.k_CLASSES "g" = some (some (.int 2 t))) ∧ (∃ t, PySem.W.nsIn K a.k_CLASSES "o" = some (some (.int 1 t))) ∧ ∀ z ∈ whats, PySem.W.nsIn K a.k_CLASSES z = some none
  mg_BadClause : mg "BadClause" = some (.ref a.x_BadClause)
  mg_TooMany : mg "TooMany" = some (.ref a.x_TooMany)
  mg_ModesError : mg "ModesError" = some (.ref a.x_ModesError)
  mg_NoWay : mg "NoWay" = some (.ref a.x_NoWay)
  ec_BadClause : ExcC K a.x_BadClause
  ox_BadClause : OexC K a.x_BadClause
  ic_BadClause : PySem.W.findIn K (.ref a.x_BadClause) "__init__" = some (some (.ref a.f_BadClauseD_initD))
  it_BadClause : PySem.W.typeIn K (.ref a.f_BadClauseD_initD) = some (.type "function")
  fn_BadClauseD_initD : Fun K "__init__" "BadClause.__init__" s_BadClauseD_initD a.f_BadClauseD_initD a.d_BadClauseD_initD
  np_BadClause : PySem.W.findIn K (.ref a.x_BadClause) "at" = some none
  em_BadClause : PySem.W.exmOne K (.ref a.x_BadClause) (.ref a.x_ModesError) = some true
  em_BadClause_BadClause : PySem.W.exmOne K (.ref a.x_BadClause) (.ref a.x_BadClause) = some true
  ks_BadClause_BadClause : PySem.W.kitOne K (.ref a.x_BadClause) (.ref a.x_BadClause) = some true
  ec_TooMany : ExcC K a.x_TooMany
  ox_TooMany : OexC K a.x_TooMany
  ic_TooMany : PySem.W.findIn K (.ref a.x_TooMany) "__init__" = some (some (.ref a.f_TooManyD_initD))
  it_TooMany : PySem.W.typeIn K (.ref a.f_TooManyD_initD) = some (.type "function")
  fn_TooManyD_initD : Fun K "__init__" "TooMany.__init__" s_TooManyD_initD a.f_TooManyD_initD a.d_TooManyD_initD
  np_TooMany : PySem.W.findIn K (.ref a.x_TooMany) "most" = some none
  em_TooMany : PySem.W.exmOne K (.ref a.x_TooMany) (.ref a.x_ModesError) = some true
  em_TooMany_TooMany : PySem.W.exmOne K (.ref a.x_TooMany) (.ref a.x_TooMany) = some true
  ks_TooMany_TooMany : PySem.W.kitOne K (.ref a.x_TooMany) (.ref a.x_TooMany) = some true
  crM : ∃ oc od kV doc pm an ct osl, a.d__law_made_right = PySem.W.fnOf "_law_made_right" "_law_made_right" (defArgs s__law_made_right) (defBody s__law_made_right) (defScope s__law_made_right) .none kV doc pm an (.ref a.cM) ct ∧ K.lookup a.f__law_made_right = some ⟨oc, od, .func a.d__law_made_right, osl⟩
  crM_code : PySem.W.codeIn K (.ref a.cM) "_law_made_right" = true
  crJ : ∃ oc od kV doc pm an ct osl, a.d__law_joined_right = PySem.W.fnOf "_law_joined_right" "_law_joined_right" (defArgs s__law_joined_right) (defBody s__law_joined_right) (defScope s__law_joined_right) .none kV doc pm an (.ref a.cJ) ct ∧ K.lookup a.f__law_joined_right = some ⟨oc, od, .func a.d__law_joined_right, osl⟩
  crJ_code : PySem.W.codeIn K (.ref a.cJ) "_law_joined_right" = true
  om_Change : KN.OwnM K a.f_Change a.f_ChangeD_mulD "mul"
  ne_0M : a.P0 ≠ a.PM
  ne_0J : a.P0 ≠ a.PJ
  ne_MJ : a.PM ≠ a.PJ
  ks_BadClause_TooMany : PySem.W.kitOne K (.ref a.x_BadClause) (.ref a.x_TooMany) = some false
  ks_TooMany_NoWay : PySem.W.kitOne K (.ref a.x_TooMany) (.ref a.x_NoWay) = some true
theorem bd_is_choice {w : World} {K : PySem.W.Frag} {mg : Str → Option Value} {a : Ads} (T : Txt w K mg a) : Binds K a.d_is_choice ["value", "letters"] [] := T.fn_is_choice.binds (ps := ["value", "letters"]) fun _ _ _ _ _ _ us hl => match us, hl with | [_, _], _ => rfl
theorem bd_is_meant {w : World} {K : PySem.W.Frag} {mg : Str → Option Value} {a : Ads} (T : Txt w K mg a) : Binds K a.d_is_meant ["what", "letter", "pattern", "form"] [] := T.fn_is_meant.binds (ps := ["what", "letter", "pattern", "form"]) fun _ _ _ _ _ _ us hl => match us, hl with | [_, _, _, _], _ => rfl
theorem bd_pattern_behind {w : World} {K : PySem.W.Frag} {mg : Str → Option Value} {a : Ads} (T : Txt w K mg a) : Binds K a.d_pattern_behind ["mask", "sign", "meant", "pattern"] [] := T.fn_pattern_behind.binds (ps := ["mask", "sign", "meant", "pattern"]) fun _ _ _ _ _ _ us hl => match us, hl with | [_, _, _, _], _ => rfl
theorem bd_part_of {w : World} {K : PySem.W.Frag} {mg : Str → Option Value} {a : Ads} (T : Txt w K mg a) : Binds K a.d_part_of ["who", "sign", "what", "letter", "form"] [] := T.fn_part_of.binds (ps := ["who", "sign", "what", "letter", "form"]) fun _ _ _ _ _ _ us hl => match us, hl with | [_, _, _, _, _], _ => rfl
theorem bd_in_turn {w : World} {K : PySem.W.Frag} {mg : Str → Option Value} {a : Ads} (T : Txt w K mg a) : Binds K a.d_in_turn ["one", "other"] [] := T.fn_in_turn.binds (ps := ["one", "other"]) fun _ _ _ _ _ _ us hl => match us, hl with | [_, _], _ => rfl
theorem bd_tables_of {w : World} {K : PySem.W.Frag} {mg : Str → Option Value} {a : Ads} (T : Txt w K mg a) : Binds K a.d_tables_of ["clauses"] [] := T.fn_tables_of.binds (ps := ["clauses"]) fun _ _ _ _ _ _ us hl => match us, hl with | [_], _ => rfl
theorem bd__law_pen {w : World} {K : PySem.W.Frag} {mg : Str → Option Value} {a : Ads} (T : Txt w K mg a) : Binds K a.d__law_pen ["_law_script"] [] := T.fn__law_pen.binds (ps := ["_law_script"]) fun _ _ _ _ _ _ us hl => match us, hl with | [_], _ => rfl
theorem bd__law_draw {w : World} {K : PySem.W.Frag} {mg : Str → Option Value} {a : Ads} (T : Txt w K mg a) : Binds K a.d__law_draw ["_law_pen_here", "_law_many"] [] := T.fn__law_draw.binds (ps := ["_law_pen_here", "_law_many"]) fun _ _ _ _ _ _ us hl => match us, hl with | [_, _], _ => rfl
theorem bd__law_pick {w : World} {K : PySem.W.Frag} {mg : Str → Option Value} {a : Ads} (T : Txt w K mg a) : Binds K a.d__law_pick ["_law_pen_here", "_law_some"] [] := T.fn__law_pick.binds (ps := ["_law_pen_here", "_law_some"]) fun _ _ _ _ _ _ us hl => match us, hl with | [_, _], _ => rfl
theorem bd__law_clause {w : World} {K : PySem.W.Frag} {mg : Str → Option Value} {a : Ads} (T : Txt w K mg a) : Binds K a.d__law_clause ["_law_pen_here"] [] := T.fn__law_clause.binds (ps := ["_law_pen_here"]) fun _ _ _ _ _ _ us hl => match us, hl with | [_], _ => rfl
theorem bd__law_text {w : World} {K : PySem.W.Frag} {mg : Str → Option Value} {a : Ads} (T : Txt w K mg a) : Binds K a.d__law_text ["_law_told"] [] := T.fn__law_text.binds (ps := ["_law_told"]) fun _ _ _ _ _ _ us hl => match us, hl with | [_], _ => rfl
theorem bd__law_change_text {w : World} {K : PySem.W.Frag} {mg : Str → Option Value} {a : Ads} (T : Txt w K mg a) : Binds K a.d__law_change_text ["_law_change"] [] := T.fn__law_change_text.binds (ps := ["_law_change"]) fun _ _ _ _ _ _ us hl => match us, hl with | [_], _ => rfl
theorem bd__law_made {w : World} {K : PySem.W.Frag} {mg : Str → Option Value} {a : Ads} (T : Txt w K mg a) : Binds K a.d__law_made ["_law_change"] [] := T.fn__law_made.binds (ps := ["_law_change"]) fun _ _ _ _ _ _ us hl => match us, hl with | [_], _ => rfl
theorem bd__law_call {w : World} {K : PySem.W.Frag} {mg : Str → Option Value} {a : Ads} (T : Txt w K mg a) : Binds K a.d__law_call ["_law_p"] [] := T.fn__law_call.binds (ps := ["_law_p"]) fun _ _ _ _ _ _ us hl => match us, hl with | [_], _ => rfl
theorem bd__law_heard {w : World} {K : PySem.W.Frag} {mg : Str → Option Value} {a : Ads} (T : Txt w K mg a) : Binds K a.d__law_heard ["_law_ask"] [] := T.fn__law_heard.binds (ps := ["_law_ask"]) fun _ _ _ _ _ _ us hl => match us, hl with | [_], _ => rfl
theorem bd__law_shown {w : World} {K : PySem.W.Frag} {mg : Str → Option Value} {a : Ads} (T : Txt w K mg a) : Binds K a.d__law_shown ["_law_change"] [] := T.fn__law_shown.binds (ps := ["_law_change"]) fun _ _ _ _ _ _ us hl => match us, hl with | [_], _ => rfl
theorem bd__law_is_clause {w : World} {K : PySem.W.Frag} {mg : Str → Option Value} {a : Ads} (T : Txt w K mg a) : Binds K a.d__law_is_clause ["_law_text_so"] [] := T.fn__law_is_clause.binds (ps := ["_law_text_so"]) fun _ _ _ _ _ _ us hl => match us, hl with | [_], _ => rfl
theorem bd__law_text_due {w : World} {K : PySem.W.Frag} {mg : Str → Option Value} {a : Ads} (T : Txt w K mg a) : Binds K a.d__law_text_due ["_law_text_so"] [] := T.fn__law_text_due.binds (ps := ["_law_text_so"]) fun _ _ _ _ _ _ us hl => match us, hl with | [_], _ => rfl
theorem bd__law_bent {w : World} {K : PySem.W.Frag} {mg : Str → Option Value} {a : Ads} (T : Txt w K mg a) : Binds K a.d__law_bent ["_law_pen_here", "_law_text_so"] [] := T.fn__law_bent.binds (ps := ["_law_pen_here", "_law_text_so"]) fun _ _ _ _ _ _ us hl => match us, hl with | [_, _], _ => rfl
theorem bd__law_made_right {w : World} {K : PySem.W.Frag} {mg : Str → Option Value} {a : Ads} (T : Txt w K mg a) : Binds K a.d__law_made_right ["_law_pen_here"] [] := T.fn__law_made_right.binds (ps := ["_law_pen_here"]) fun _ _ _ _ _ _ us hl => match us, hl with | [_], _ => rfl
theorem bd__law_joined_right {w : World} {K : PySem.W.Frag} {mg : Str → Option Value} {a : Ads} (T : Txt w K mg a) : Binds K a.d__law_joined_right ["_law_pen_here", "_law_told", "_law_change"] [] := T.fn__law_joined_right.binds (ps := ["_law_pen_here", "_law_told", "_law_change"]) fun _ _ _ _ _ _ us hl => match us, hl with | [_, _, _], _ => rfl
theorem bd_ClauseD_initD {w : World} {K : PySem.W.Frag} {mg : Str → Option Value} {a : Ads} (T : Txt w K mg a) : Binds K a.d_ClauseD_initD ["self", "who", "sign", "what"] [] := T.fn_ClauseD_initD.binds (ps := ["self", "who", "sign", "what"]) fun _ _ _ _ _ _ us hl => match us, hl with | [_, _, _, _], _ => rfl
theorem bd_Clause_who {w : World} {K : PySem.W.Frag} {mg : Str → Option Value} {a : Ads} (T : Txt w K mg a) : Binds K a.d_Clause_who ["self"] [] := T.fn_Clause_who.binds (ps := ["self"]) fun _ _ _ _ _ _ us hl => match us, hl with | [_], _ => rfl
theorem bd_Clause_sign {w : World} {K : PySem.W.Frag} {mg : Str → Option Value} {a : Ads} (T : Txt w K mg a) : Binds K a.d_Clause_sign ["self"] [] := T.fn_Clause_sign.binds (ps := ["self"]) fun _ _ _ _ _ _ us hl => match us, hl with | [_], _ => rfl
theorem bd_Clause_what {w : World} {K : PySem.W.Frag} {mg : Str → Option Value} {a : Ads} (T : Txt w K mg a) : Binds K a.d_Clause_what ["self"] [] := T.fn_Clause_what.binds (ps := ["self"]) fun _ _ _ _ _ _ us hl => match us, hl with | [_], _ => rfl
theorem bd_ClauseD_strD {w : World} {K : PySem.W.Frag} {mg : Str → Option Value} {a : Ads} (T : Txt w K mg a) : Binds K a.d_ClauseD_strD ["self"] [] := T.fn_ClauseD_strD.binds (ps := ["self"]) fun _ _ _ _ _ _ us hl => match us, hl with | [_], _ => rfl
theorem bd_ClauseD_eqD {w : World} {K : PySem.W.Frag} {mg : Str → Option Value} {a : Ads} (T : Txt w K mg a) : Binds K a.d_ClauseD_eqD ["self", "other"] [] := T.fn_ClauseD_eqD.binds (ps := ["self", "other"]) fun _ _ _ _ _ _ us hl => match us, hl with | [_, _], _ => rfl
theorem bd_Clause_read {w : World} {K : PySem.W.Frag} {mg : Str → Option Value} {a : Ads} (T : Txt w K mg a) : Binds K a.d_Clause_read ["cls", "text"] [] := T.fn_Clause_read.binds (ps := ["cls", "text"]) fun _ _ _ _ _ _ us hl => match us, hl with | [_, _], _ => rfl
theorem bd_Change_clauses {w : World} {K : PySem.W.Frag} {mg : Str → Option Value} {a : Ads} (T : Txt w K mg a) : Binds K a.d_Change_clauses ["self"] [] := T.fn_Change_clauses.binds (ps := ["self"]) fun _ _ _ _ _ _ us hl => match us, hl with | [_], _ => rfl
theorem bd_ChangeD_strD {w : World} {K : PySem.W.Frag} {mg : Str → Option Value} {a : Ads} (T : Txt w K mg a) : Binds K a.d_ChangeD_strD ["self"] [] := T.fn_ChangeD_strD.binds (ps := ["self"]) fun _ _ _ _ _ _ us hl => match us, hl with | [_], _ => rfl
theorem bd_ChangeD_eqD {w : World} {K : PySem.W.Frag} {mg : Str → Option Value} {a : Ads} (T : Txt w K mg a) : Binds K a.d_ChangeD_eqD ["self", "other"] [] := T.fn_ChangeD_eqD.binds (ps := ["self", "other"]) fun _ _ _ _ _ _ us hl => match us, hl with | [_, _], _ => rfl
theorem bd_ChangeD_mulD {w : World} {K : PySem.W.Frag} {mg : Str → Option Value} {a : Ads} (T : Txt w K mg a) : Binds K a.d_ChangeD_mulD ["self", "other"] [] := T.fn_ChangeD_mulD.binds (ps := ["self", "other"]) fun _ _ _ _ _ _ us hl => match us, hl with | [_, _], _ => rfl
theorem bd_Change_read {w : World} {K : PySem.W.Frag} {mg : Str → Option Value} {a : Ads} (T : Txt w K mg a) : Binds K a.d_Change_read ["cls", "text"] [] := T.fn_Change_read.binds (ps := ["cls", "text"]) fun _ _ _ _ _ _ us hl => match us, hl with | [_, _], _ => rfl
theorem bd_BadClauseD_initD {w : World} {K : PySem.W.Frag} {mg : Str → Option Value} {a : Ads} (T : Txt w K mg a) : Binds K a.d_BadClauseD_initD ["self", "at"] [] := T.fn_BadClauseD_initD.binds (ps := ["self", "at"]) fun _ _ _ _ _ _ us hl => match us, hl with | [_, _], _ => rfl
theorem bd_TooManyD_initD {w : World} {K : PySem.W.Frag} {mg : Str → Option Value} {a : Ads} (T : Txt w K mg a) : Binds K a.d_TooManyD_initD ["self", "most"] [] := T.fn_TooManyD_initD.binds (ps := ["self", "most"]) fun _ _ _ _ _ _ us hl => match us, hl with | [_, _], _ => rfl
end KL
set_option Elab.async false
set_option linter.all false
set_option maxRecDepth 100000
set_option maxHeartbeats 4000000
namespace KL
open PySem PySem.Spec PyProof.Rows L2 Evl KF
local macro_rules | `(tactic| walk_at "ev") => `(tactic| repeat' (first | exact ev_c | exact ev_var rfl | exact rv_I0 | refine' rv_I ?_ | refine' rv_eq ?_ | refine' rv_ne ?_ | refine' ev_op ?_ ?_ ?_ | exact ea_nil | refine' ea_cons ?_ ?_ | refine' et_test ?_ | refine' et_B ?_ | refine' et_not ?_ | refine' ev_notV ?_))

section
variable {σ : L2.St} {K : PySem.W.Frag} {H H' : Hp} {tx te ta tb : TE} {u t : TT} {v x y z : V} {r : R2}
theorem ev_join {s : Str} {ys : List Str} (ha : Ev ta σ H (.str s)) (hb : EvL te σ H (ys.map V.str)) (hz : (ys.map (·.length)).sum + ys.length * s.length ≤ 16777216) :
    Ev (tM1 (fun x xs H Q => ∃ a p, ∃ ys : List Str, x = .str a ∧ xs = [.ref p] ∧ (SqL K H p (ys.map V.str) ∨ SqT K H p (ys.map V.str)) ∧ (ys.map (·.length)).sum + ys.length * a.length ≤ 16777216 ∧ Q (.str (Txt.join a ys)) H) ta te) σ H (.str (Txt.join s ys)) := fun H1 e Q q =>
  ha H1 e _ fun H2 e2 => ⟨⟨s, rfl⟩, hb H2 (e.trans e2) _ fun p H3 _ e3 h3 => ⟨s, p, ys, rfl, rfl, .inl (sq_of h3), hz, q H3 (e2.trans e3)⟩⟩
theorem rv_inS {c : Nat} {w : Str} : RV (fun x y H Q => ∃ (c : Nat) (z : Str), x = .str ⟨#[c]⟩ ∧ y = .str z ∧ Q (.bl (decide (c ∈ z.cps.toList))) H) (.str ⟨#[c]⟩) (.str w) H (.bl (decide (c ∈ w.cps.toList))) := fun H1 _ _ q => ⟨c, w, rfl, rfl, q H1 (Ex.refl H1)⟩
end
def chosen (v l : Str) : List Str := (l.cps.toList.filter fun c => decide (c ∈ v.cps.toList)).map fun c => ⟨#[c]⟩
theorem given_signs (l : Str) (p : Nat → Bool) : given l.cps.size (fun i => p (l.cps.toList.getD i 0)) (fun i => V.str ⟨#[l.cps.toList.getD i 0]⟩) = (((l.cps.toList.filter p).map fun c => (⟨#[c]⟩ : Str)).map V.str) := by
  unfold given
  have h : ∀ (xs : List Nat), ((List.range xs.length).filter fun i => p (xs.getD i 0)).map (fun i => V.str ⟨#[xs.getD i 0]⟩) = ((xs.filter p).map fun c => (⟨#[c]⟩ : Str)).map V.str := by
    intro xs
    have e : xs = (List.range xs.length).map fun i => xs.getD i 0 := by
      apply List.ext_getElem
      · simp
      · intro i h1 h2
        simp at h2 ⊢
        simp [h1]
    conv => rhs; rw [e]
    rw [List.filter_map, List.map_map, List.map_map]
    rfl
  have := h l.cps.toList
  rw [Array.length_toList] at this
  exact this
theorem ones_sum : ∀ xs : List Nat, ((xs.map fun c => (⟨#[c]⟩ : Str)).map (·.length)).sum = xs.length
  | [] => rfl
  | x :: xs => by
    have := ones_sum xs
    simp only [List.map_cons, List.sum_cons, List.length_cons, this]
    show 1 + xs.length = xs.length + 1
    omega
theorem chosen_small {v l : Str} (h : l.cps.size ≤ 20) : ((chosen v l).map (·.length)).sum + (chosen v l).length * (Str.length "") ≤ 16777216 := by
  have e : Str.length "" = 0 := by decide +kernel
  have h1 : (l.cps.toList.filter fun c => decide (c ∈ v.cps.toList)).length ≤ l.cps.toList.length := List.length_filter_le ..
  have e2 : l.cps.toList.length = l.cps.size := by simp
  rw [e, Nat.mul_zero]
  unfold chosen
  rw [ones_sum]
  omega
def spChoice : Sp := fun vs H Q _ => ∃ v l : Str, vs = [.str v, .str l] ∧ l.cps.size ≤ 20 ∧ ∀ H', Ex H H' → Q (.bl (decide (V.str v = V.str (Txt.join "" (chosen v l))))) H'
section
variable {P : Program} {w : World} {K : PySem.W.Frag} {mg : Str → Option Value} {base : Heap} {a : Ads}
theorem ok_is_choice (T : Txt w K mg a) : FnOk P w K mg base CX0 1 a.f_is_choice a.d_is_choice ["value", "letters"] spChoice := by
  refine T.fn_is_choice.ok sc_is_choice (fun vs H Q E h => ?_) (fun cdv A outer s H vs Q E hr h => ?_)
  · obtain ⟨_, _, rfl, _⟩ := h
    rfl
  · obtain ⟨v, l, rfl, hl, k⟩ := h
    refine ⟨_, (pss_cons (ps_if (pt_not (pt_val (pe_callB call_isi (by rfl) T.b_isinstance PyProof.Rows.boot_isinstance (pa_cons (pv 0) (pa_cons (pe_bltn (v := .ty "str") (by rfl) T.b_str (by decide +kernel) rfl) pa_nil))))) (pss_one (ps_ret pe_bl)) pss_nil)
    (pss_one (ps_ret (pe_cmpR op_eq (pv 0) (pe_join pe_str (pe_lc (own := [("letter", 2)]) (g := gName 2) rfl sc_is_choice.nd (pi_str (pv 1)) (blkOk_by (own := [("letter", 2)]) (N := n_is_choice) (sc := defScope s_is_choice) (by decide +kernel)) (fun _ _ _ _ _ => (pg_name (i := 2) sc_is_choice.nd rfl (Or.inl rfl))) (fun _ _ _ _ _ => (pts_one (pt_cmpR op_in_sign (pv 2) (pv 0) (by rfl)))) (fun _ _ _ _ _ => (pv 2)))) (nomark _))))), ?_⟩
    refine q_when (b := false) (et_not (a := true) (et_B (ev_isi (by walk_at "ev") (.ty _) (fun _ _ => .base (.str v)) (kit_ty (by decide +kernel))))) (fun z => nomatch z) fun _ H1 e1 => ?_
    have hL := el_lcS (σ := L2.start n_is_choice [.str v, .str l]) (H := H1) (s := l) (tl' := tVar 1) (j := 2) (vs := [2]) (t := tTest (tOp (fun x y H Q => ∃ (c : Nat) (z : Str), x = .str ⟨#[c]⟩ ∧ y = .str z ∧ Q (.bl (decide (c ∈ z.cps.toList))) H) (tVar 2) (tVar 0))) (te := tVar 2) (fun i => decide (l.cps.toList.getD i 0 ∈ v.cps.toList)) (fun i => V.str ⟨#[l.cps.toList.getD i 0]⟩) (ev_var rfl) (by omega) (fun _ => rfl)
      (fun i c H2 e2 hc => et_test (ev_is (ev_op (ev_var rfl) (ev_var rfl) rv_inS) (by rw [← Array.getElem?_toList] at hc; simp [List.getD, hc])))
      (fun i c H2 e2 hc _ => ev_is (ev_var rfl) (by rw [← Array.getElem?_toList] at hc; simp [List.getD, hc]))
    rw [given_signs l fun c => decide (c ∈ v.cps.toList)] at hL
    refine s_ret (v := .bl (decide (V.str v = V.str (Txt.join "" (chosen v l))))) (ev_op (ev_var rfl) (ev_join (s := "") ev_c hL ?_) (rv_eq rfl)) fun H2 e2 => k H2 (e1.trans e2)
    exact chosen_small hl
end
end KL
set_option Elab.async false
set_option linter.all false
set_option maxRecDepth 100000
set_option maxHeartbeats 4000000
namespace KL
open PySem PySem.Spec PyProof.Rows L2 Evl KF
local macro_rules | `(tactic| walk_at "ev") => `(tactic| repeat' (first | exact ev_c | exact ev_var rfl | exact rv_I0 | refine' rv_I ?_ | refine' rv_eq ?_ | refine' rv_ne ?_ | refine' ev_op ?_ ?_ ?_ | exact ea_nil | refine' ea_cons ?_ ?_ | refine' et_test ?_ | refine' et_B ?_ | refine' et_not ?_ | refine' ev_notV ?_))

abbrev sg (c : Nat) : Str := ⟨#[c]⟩
def allw : List Str := "u" :: "g" :: "o" :: whats
def forms : List Str := ["file", "folder"]
def meantB (what : Str) (c p : Nat) (form : Str) : Bool :=
  if what = "u" then !decide (V.int (Builtin.bitAnd p 4) = V.int 0) else if what = "g" then !decide (V.int (Builtin.bitAnd p 2) = V.int 0) else if what = "o" then !decide (V.int (Builtin.bitAnd p 1) = V.int 0) else
  if c ∈ what.cps.toList then true else (decide (V.str (sg c) = V.str "x") && (decide (88 ∈ what.cps.toList) && (decide (V.str form = V.str "folder") || !decide (V.int p = V.int 0))))
def spMeant : Sp := fun vs H Q _ => ∃ (what form : Str) (c p : Nat), vs = [.str what, .str (sg c), .int p, .str form] ∧ what ∈ allw ∧ ∀ H', Ex H H' → Q (.bl (meantB what c p form)) H'
theorem rv_kd {K : PySem.W.Frag} {d : Addr} {z : Str} {r : Option Value} {H : Hp} (h : PySem.W.nsIn K d z = some r) : RV (fun x y H Q => ∃ (z : Str) (r : Option Value), x = .str z ∧ y = .ref d ∧ PySem.W.nsIn K d z = some r ∧ Q (.bl r.isSome) H) (.str z) (.ref d) H (.bl r.isSome) := fun H1 _ _ q => ⟨z, r, rfl, rfl, h, q H1 (Ex.refl H1)⟩
theorem rv_kix {K : PySem.W.Frag} {w : World} {d : Addr} {es : Array DictEntry} {n : Nat} {z : Str} {u : Value} {v : V} {H : Hp} (D : KDict K w d es n) (h : PySem.W.nsIn K d z = some (some u)) (r : RelV v u) : RV (rIxD K w) (.ref d) (.str z) H v := fun H1 _ _ q => ⟨d, z, v, rfl, rfl, ⟨es, n, u, D.at_, D.lit, h, r⟩, q H1 (Ex.refl H1)⟩
theorem not_u : ("u" : Str) ∉ whats ∧ ("g" : Str) ∉ whats ∧ ("o" : Str) ∉ whats ∧ ("g" : Str) ≠ "u" ∧ ("o" : Str) ≠ "u" ∧ ("o" : Str) ≠ "g" := by decide +kernel
theorem X_is : ("X" : Str) = ⟨#[88]⟩ := by decide +kernel
section
variable {P : Program} {w : World} {K : PySem.W.Frag} {mg : Str → Option Value} {base : Heap} {a : Ads}
theorem ok_is_meant (T : Txt w K mg a) : FnOk P w K mg base CX0 1 a.f_is_meant a.d_is_meant ["what", "letter", "pattern", "form"] spMeant := by
  obtain ⟨es, n, D, ⟨t4, hu⟩, ⟨t2, hg⟩, ⟨t1, ho⟩, hno⟩ := T.d_CLASSES
  refine T.fn_is_meant.ok sc_is_meant (fun vs H Q E h => ?_) (fun cdv A outer s H vs Q E hr h => ?_)
  · obtain ⟨_, _, _, _, rfl, _⟩ := h
    rfl
  · obtain ⟨what, form, c, p, rfl, hw, k⟩ := h
    refine ⟨_, (pss_cons (ps_if (pt_cmpR (op_in_kd D) (pv 0) (pe_glob (v := .ref a.k_CLASSES) rfl T.mg_CLASSES rfl) (by rfl)) (pss_one (ps_ret (pe_cmpR op_ne (pe_op op_and (pv 2) (pe_ix ix_kdict (pe_glob (v := .ref a.k_CLASSES) rfl T.mg_CLASSES rfl) (pv 0) (fun _ _ => rfl))) pe_int (nomark _)))) pss_nil)
    (pss_cons (ps_if (pt_cmpR op_in_sign (pv 1) (pv 0) (by rfl)) (pss_one (ps_ret pe_bl)) pss_nil)
    (pss_one (ps_ret (pe_and (pe_cmpR op_eq (pv 1) pe_str (nomark _)) (pe_and (pe_cmpR op_in_sign pe_str (pv 0) (by rfl)) (pe_one (pe_or (pe_cmpR op_eq (pv 3) pe_str (nomark _)) (pe_one (pe_cmpR op_ne (pv 2) pe_int (nomark _))))))))))), ?_⟩
    have cl3 : (∃ (b : Nat) (t : Tok), PySem.W.nsIn K a.k_CLASSES what = some (some (.int b t)) ∧ meantB what c p form = !decide (V.int (Builtin.bitAnd p b) = V.int 0)) ∨ what ∈ whats := by
      rcases List.mem_cons.mp hw with rfl | hw
      · exact .inl ⟨4, t4, hu, by unfold meantB; rw [if_pos rfl]; rfl⟩
      rcases List.mem_cons.mp hw with rfl | hw
      · exact .inl ⟨2, t2, hg, by unfold meantB; rw [if_neg not_u.2.2.2.1, if_pos rfl]; rfl⟩
      rcases List.mem_cons.mp hw with rfl | hw
      · exact .inl ⟨1, t1, ho, by unfold meantB; rw [if_neg not_u.2.2.2.2.1, if_neg not_u.2.2.2.2.2, if_pos rfl]; rfl⟩
      exact .inr hw
    rcases cl3 with ⟨b, t, hn, e⟩ | hw
    · refine q_when (b := true) (et_test (ev_op (ev_var rfl) ev_c (rv_kd hn))) (fun _ H1 e1 => ?_) (fun z => nomatch z)
      exact s_ret (v := .bl (meantB what c p form)) (ev_is (ev_op (ev_op (ev_var rfl) (ev_op ev_c (ev_var rfl) (rv_kix (v := .int b) D hn ⟨_, rfl⟩)) rv_I0) ev_c (rv_ne rfl)) (by rw [e])) fun H2 e2 => k H2 (e1.trans e2)
    have e0 : meantB what c p form = if c ∈ what.cps.toList then true else (decide (V.str (sg c) = V.str "x") && (decide (88 ∈ what.cps.toList) && (decide (V.str form = V.str "folder") || !decide (V.int p = V.int 0)))) := by
      unfold meantB
      rw [if_neg (fun z => not_u.1 (by rw [← z]; exact hw)), if_neg (fun z => not_u.2.1 (by rw [← z]; exact hw)), if_neg (fun z => not_u.2.2.1 (by rw [← z]; exact hw))]
    refine q_when (b := false) (et_test (ev_op (ev_var rfl) ev_c (rv_kd (hno what hw)))) (fun z => nomatch z) fun _ H1 e1 => ?_
    refine q_when (b := decide (c ∈ what.cps.toList)) (et_test (ev_op (ev_var rfl) (ev_var rfl) rv_inS)) (fun hb H2 e2 => ?_) fun hb H2 e2 => ?_
    · rw [if_pos (of_decide_eq_true hb)] at e0
      exact s_ret (v := .bl (meantB what c p form)) (ev_is ev_c (by rw [e0])) fun H3 e3 => k H3 ((e1.trans e2).trans e3)
    · rw [if_neg (of_decide_eq_false hb)] at e0
      refine s_ret (v := .bl (meantB what c p form)) (ev_is (ev_andV (ev_op (ev_var rfl) ev_c (rv_eq rfl)) fun _ => ev_andV (ev_op (ev_is ev_c (congrArg V.str X_is)) (ev_var rfl) rv_inS) fun _ => ev_orV (ev_op (ev_var rfl) ev_c (rv_eq rfl)) fun _ => ev_op (ev_var rfl) ev_c (rv_ne rfl)) (by rw [e0])) fun H3 e3 => k H3 ((e1.trans e2).trans e3)
end
end KL
set_option Elab.async false
set_option linter.all false
set_option maxRecDepth 100000
set_option maxHeartbeats 4000000
namespace KL
open PySem PySem.Spec PyProof.Rows L2 Evl KF
local macro_rules | `(tactic| walk_at "ev") => `(tactic| repeat' (first | exact ev_c | exact ev_var rfl | exact rv_I0 | refine' rv_I ?_ | refine' rv_eq ?_ | refine' rv_ne ?_ | refine' ev_op ?_ ?_ ?_ | exact ea_nil | refine' ea_cons ?_ ?_ | refine' et_test ?_ | refine' et_B ?_ | refine' et_not ?_ | refine' ev_notV ?_))

def pbI (mask : Int) (sign : Str) (meant : Bool) (p : Int) : Int := if meant then (if decide (V.str sign = V.str "-") then Builtin.bitAnd p (7 - mask) else Builtin.bitOr p mask) else (if decide (V.str sign = V.str "=") then Builtin.bitAnd p (7 - mask) else p)
def spBehind : Sp := fun vs H Q _ => ∃ (mask p : Int) (sign : Str) (meant : Bool), vs = [.int mask, .str sign, .bl meant, .int p] ∧ ∀ H', Ex H H' → Q (.int (pbI mask sign meant p)) H'
def clsV (c : Nat) : Nat := if c = 117 then 4 else if c = 103 then 2 else 1
def maskN (who : Str) : Nat := (who.cps.toList.map clsV).sum
def whoOk (who : Str) : Prop := (∀ c ∈ who.cps.toList, c = 117 ∨ c = 103 ∨ c = 111) ∧ maskN who ≤ 7 ∧ who.cps.size ≤ 3
def partF (who sign what : Str) (c : Nat) (form : Str) (p : Nat) : Nat := (pbI (maskN who : Nat) sign (meantB what c p form) p).toNat
def rowV (f : Nat → Nat) : List V := (List.range 8).map fun i => V.int (f i : Nat)
def spPart : Sp := fun vs H Q _ => ∃ (who sign what form : Str) (c : Nat), vs = [.str who, .str sign, .str what, .str (sg c), .str form] ∧ whoOk who ∧ what ∈ allw ∧ ∀ p H', H p = none → Ex H H' → H' p = some (.tup (rowV (partF who sign what c form))) → Q (.ref p) H'
theorem pb_small : ∀ mask, mask < 8 → ∀ p : Nat, p < 8 → 0 ≤ Builtin.bitAnd (p : Int) (7 - (mask : Nat)) ∧ Builtin.bitAnd (p : Int) (7 - (mask : Nat)) < 8 ∧ 0 ≤ Builtin.bitOr (p : Int) (mask : Nat) ∧ Builtin.bitOr (p : Int) (mask : Nat) < 8 := by
  have h : ((List.range 8).all fun (m : Nat) => (List.range 8).all fun (p : Nat) => decide (0 ≤ Builtin.bitAnd (p : Int) (7 - (m : Nat)) ∧ Builtin.bitAnd (p : Int) (7 - (m : Nat)) < 8 ∧ 0 ≤ Builtin.bitOr (p : Int) (m : Nat) ∧ Builtin.bitOr (p : Int) (m : Nat) < 8)) = true := by decide +kernel
  exact fun m hm p hp => of_decide_eq_true (all_nat (all_nat h m hm) p hp)
theorem pb_bounds {mask p : Nat} {sign : Str} {meant : Bool} (hm : mask < 8) (hp : p < 8) : 0 ≤ pbI mask sign meant p ∧ pbI mask sign meant p < 8 := by
  obtain ⟨h1, h2, h3, h4⟩ := pb_small mask hm p hp
  unfold pbI
  split <;> split <;> first | exact ⟨h1, h2⟩ | exact ⟨h3, h4⟩ | exact ⟨by omega, by omega⟩
theorem partF_eq {who sign what form : Str} {c p : Nat} (hw : whoOk who) (hp : p < 8) : pbI (maskN who : Nat) sign (meantB what c p form) p = (partF who sign what c form p : Nat) ∧ partF who sign what c form p < 8 := by
  obtain ⟨h1, h2⟩ := pb_bounds (mask := maskN who) (p := p) (sign := sign) (meant := meantB what c p form) (by have := hw.2.1; omega) hp
  unfold partF
  omega
def SpU (sp : Sp) (vs : List V) (H : Hp) (xs : List V) : Prop := ∀ H1, Ex H H1 → ∀ Q : VK, (∀ p H2, H1 p = none → Ex H1 H2 → H2 p = some (.tup xs) → Q (.ref p) H2) → ∀ E : XK, sp vs H1 Q E
theorem eu_call {σ : L2.St} {H : Hp} {sp : Sp} {dvs vs xs : List V} {E : XK} {ta : TA} (h : EvA ta σ H vs) (hs : SpU sp (vs ++ dvs) H xs) : EvU (tCall sp dvs E ta) σ H xs := fun H1 e Q q =>
  h H1 e _ fun Ha ea => hs Ha (e.trans ea) Q (fun p Hb new eb at_ => q p Hb (fresh_back ea new) (ea.trans eb) at_) E
theorem u_is : ("u" : Str) = ⟨#[117]⟩ ∧ ("g" : Str) = ⟨#[103]⟩ ∧ ("o" : Str) = ⟨#[111]⟩ := by decide +kernel
section
variable {P : Program} {w : World} {K : PySem.W.Frag} {mg : Str → Option Value} {base : Heap} {a : Ads}
theorem ok_pattern_behind (T : Txt w K mg a) : FnOk P w K mg base CX0 1 a.f_pattern_behind a.d_pattern_behind ["mask", "sign", "meant", "pattern"] spBehind := by
  refine T.fn_pattern_behind.ok sc_pattern_behind (fun vs H Q E h => ?_) (fun cdv A outer s H vs Q E hr h => ?_)
  · obtain ⟨_, _, _, _, rfl, _⟩ := h
    rfl
  · obtain ⟨mask, p, sign, meant, rfl, k⟩ := h
    refine ⟨_, (pss_cons (ps_if (pt_val (pv 2)) (pss_one (ps_ret (pe_ifExp (pt_cmpR op_eq (pv 1) pe_str (nomark _)) (pe_op op_and (pv 3) (pe_op op_sub pe_int (pv 0))) (pe_op op_or (pv 3) (pv 0))))) pss_nil)
    (pss_one (ps_ret (pe_ifExp (pt_cmpR op_eq (pv 1) pe_str (nomark _)) (pe_op op_and (pv 3) (pe_op op_sub pe_int (pv 0))) (pv 3))))), ?_⟩
    refine q_when (b := meant) (et_B (ev_var rfl)) (fun hb H1 e1 => ?_) (fun hb H1 e1 => ?_)
    · refine s_ret (v := .int (pbI mask sign meant p)) (ev_if (b := decide (V.str sign = V.str "-")) (et_test (ev_op (ev_var rfl) ev_c (rv_eq rfl))) (fun hc => ev_is (by walk_at "ev") ?_) (fun hc => ev_is (by walk_at "ev") ?_)) fun H2 e2 => k H2 (e1.trans e2)
      · unfold pbI; rw [hb, hc] <;> rfl
      · unfold pbI; rw [hb, hc] <;> rfl
    · refine s_ret (v := .int (pbI mask sign meant p)) (ev_if (b := decide (V.str sign = V.str "=")) (et_test (ev_op (ev_var rfl) ev_c (rv_eq rfl))) (fun hc => ev_is (by walk_at "ev") ?_) (fun hc => ev_is (by walk_at "ev") ?_)) fun H2 e2 => k H2 (e1.trans e2)
      · unfold pbI; rw [hb, hc] <;> rfl
      · unfold pbI; rw [hb, hc] <;> rfl
theorem ok_part_of (T : Txt w K mg a) : FnOk P w K mg base CX0 3 a.f_part_of a.d_part_of ["who", "sign", "what", "letter", "form"] spPart := by
  have G_pattern_behind : FnOk P w K mg base CX0 1 _ _ _ _ := ok_pattern_behind T
  have G_is_meant : FnOk P w K mg base CX0 1 _ _ _ _ := ok_is_meant T
  obtain ⟨es, n, D, ⟨t4, hu⟩, ⟨t2, hg⟩, ⟨t1, ho⟩, hno⟩ := T.d_CLASSES
  refine T.fn_part_of.ok sc_part_of (fun vs H Q E h => ?_) (fun cdv A outer s H vs Q E hr h => ?_)
  · obtain ⟨_, _, _, _, _, rfl, _⟩ := h
    rfl
  · obtain ⟨who, sign, what, form, c, rfl, hw, hwh, k⟩ := h
    have hrc : Room 1 _ := hr.mono (by decide)
    refine ⟨_, (pss_cons (ps_set (i := 5) sc_part_of.nd rfl (Or.inr rfl) (pe_callB (cr_sum rfl) (by rfl) T.b_sum (by decide +kernel) (pa_cons (pe_lc (own := [("told", 6)]) (g := gName 6) rfl sc_part_of.nd (pi_str (pv 0)) (blkOk_by (own := [("told", 6)]) (N := n_part_of) (sc := defScope s_part_of) (by decide +kernel)) (fun _ _ _ _ _ => (pg_name (i := 6) sc_part_of.nd rfl (Or.inl rfl))) (fun _ _ _ _ _ => pts_nil) (fun _ _ _ _ _ => (pe_ix (r := rIxD K w) ix_kdict (pe_glob (v := .ref a.k_CLASSES) rfl T.mg_CLASSES rfl) (pv 6) (fun _ _ => rfl)))) pa_nil)))
    (pss_one (ps_ret (pe_callTy call_tuple_of (by rfl) T.b_tuple (by decide +kernel) (pa_cons (pe_lc (own := [("pattern", 7)]) (g := gName 7) rfl sc_part_of.nd (pi_tup (pe_glob (v := .ref a.k_PATTERNS) rfl T.mg_PATTERNS rfl)) (blkOk_by (own := [("pattern", 7)]) (N := n_part_of) (sc := defScope s_part_of) (by decide +kernel)) (fun _ _ _ _ _ => (pg_name (i := 7) sc_part_of.nd rfl (Or.inl rfl))) (fun _ _ _ _ _ => pts_nil) (fun _ _ _ _ _ => (pe_call G_pattern_behind hrc rfl T.mg_pattern_behind T.fn_pattern_behind.kp (bd_pattern_behind T) .nil pass0 (pa_cons (pv 5) (pa_cons (pv 1) (pa_cons (pe_call G_is_meant hrc rfl T.mg_is_meant T.fn_is_meant.kp (bd_is_meant T) .nil pass0 (pa_cons (pv 2) (pa_cons (pv 3) (pa_cons (pv 7) (pa_cons (pv 4) pa_nil))))) (pa_cons (pv 7) pa_nil))))))) pa_nil))))), ?_⟩
    have hc : ∀ (i d : Nat), who.cps[i]? = some d → ∃ t : Tok, PySem.W.nsIn K a.k_CLASSES (⟨#[d]⟩ : Str) = some (some (.int (clsV d : Nat) t)) := fun i d hd => by
      have hm : d ∈ who.cps.toList := by rw [← Array.getElem?_toList] at hd; exact List.mem_of_getElem? hd
      rcases hw.1 d hm with rfl | rfl | rfl
      · exact ⟨t4, by rw [← u_is.1]; exact hu⟩
      · exact ⟨t2, by rw [← u_is.2.1]; exact hg⟩
      · exact ⟨t1, by rw [← u_is.2.2]; exact ho⟩
    refine q_asg (v := .int (maskN who : Nat)) (ev_is (ev_sum (ns := who.cps.toList.map fun d => ((clsV d : Nat) : Int)) (el_is (el_lcS (s := who) (fun _ => true) (fun i => V.int (clsV (who.cps.toList.getD i 0) : Nat)) (ev_var rfl) (by have := hw.2.2; omega) (fun _ => rfl) (fun _ _ _ _ _ => et_yes)
      (fun i d H2 e2 hd _ => ?_)) ?_)) ?_) fun H1 e1 => ?_
    · obtain ⟨t, ht⟩ := hc i d hd
      refine ev_is (ev_op ev_c (ev_var rfl) (rv_kix (v := .int (clsV d : Nat)) D ht ⟨_, rfl⟩)) ?_
      rw [← Array.getElem?_toList] at hd
      simp [List.getD, hd]
    · rw [given_all]
      apply List.ext_getElem
      · simp
      · intro i h1 h2
        simp at h1 h2 ⊢
        simp [h1]
    · congr 1
      unfold maskN
      have : ∀ xs : List Nat, (xs.map fun d => ((clsV d : Nat) : Int)).sum = ((xs.map clsV).sum : Nat) := by
        intro xs
        induction xs with
        | nil => rfl
        | cons x xs ih => simp only [List.map_cons, List.sum_cons, ih]; omega
      exact this _
    refine s_retU (xs := rowV (partF who sign what c form)) (eu_tuple (el_is (el_lcT (xs := [0, 1, 2, 3, 4, 5, 6, 7].map V.int) (σ' := fun x => [some (.str who), some (.str sign), some (.str what), some (.str (sg c)), some (.str form), some (.int (maskN who : Nat)), none, some x]) (fun _ => true) (fun i => V.int (partF who sign what c form i : Nat)) ev_c (T.t_PATTERNS _) (by decide)
      (fun i x H2 Q' e2 hi q => q) (fun _ => rfl) (fun _ _ _ _ _ => et_yes) (fun i x H2 e2 hi _ => ?_)) (by rw [given_all]; rfl))) fun p H2 hp e2 h2 => k p H2 (fresh_back e1 hp) (e1.trans e2) h2
    obtain ⟨hi8, rfl⟩ : i < 8 ∧ x = .int (i : Nat) := by
      have h8 := (List.getElem?_eq_some_iff.mp hi).1
      have h8' : i < 8 := h8
      refine ⟨h8', ?_⟩
      have : ∀ j, j < 8 → ([0, 1, 2, 3, 4, 5, 6, 7].map V.int)[j]? = some (.int (j : Nat)) := by
        intro j hj
        match j, hj with
        | 0, _ => rfl | 1, _ => rfl | 2, _ => rfl | 3, _ => rfl | 4, _ => rfl | 5, _ => rfl | 6, _ => rfl | 7, _ => rfl
      rw [this i h8'] at hi
      exact (Option.some.inj hi).symm
    refine ev_is (ev_call (vs := [.int (maskN who : Nat), .str sign, .bl (meantB what c i form), .int (i : Nat)]) (ea_cons (ev_var rfl) (ea_cons (ev_var rfl) (ea_cons (ev_call (vs := [.str what, .str (sg c), .int (i : Nat), .str form]) (by walk_at "ev") fun H3 e3 Q3 q3 E3 => ⟨what, form, c, i, rfl, hwh, q3⟩) (ea_cons (ev_var rfl) ea_nil)))) fun H3 e3 Q3 q3 E3 => ⟨_, _, _, _, rfl, q3⟩) ?_
    rw [(partF_eq (sign := sign) (what := what) (form := form) (c := c) hw hi8).1]
end
end KL
set_option Elab.async false
set_option linter.all false
set_option maxRecDepth 100000
set_option maxHeartbeats 4000000
namespace KL
open PySem PySem.Spec PyProof.Rows L2 Evl KF
local macro_rules | `(tactic| walk_at "ev") => `(tactic| repeat' (first | exact ev_c | exact ev_var rfl | exact rv_I0 | refine' rv_I ?_ | refine' rv_eq ?_ | refine' rv_ne ?_ | refine' ev_op ?_ ?_ ?_ | exact ea_nil | refine' ea_cons ?_ ?_ | refine' et_test ?_ | refine' et_B ?_ | refine' et_not ?_ | refine' ev_notV ?_))

section
variable {K : PySem.W.Frag} {σ : L2.St} {H H' : Hp} {ta tb te tx tv : TE} {t u : TT} {x y z v : V} {r : R2} {D : Ends} {tz : TS}
def EvLL (te : TE) (σ : L2.St) (H : Hp) (n : Nat) (rows : Nat → List V) : Prop := ∀ H1, Ex H H1 → ∀ Q : VK, (∀ (p : Addr) (qs : List Addr) (H2 : Hp), H1 p = none → Ex H1 H2 → qs.length = n → H2 p = some (.lst (qs.map V.ref)) → (∀ j q, qs[j]? = some q → H1 q = none ∧ H2 q = some (.tup (rows j))) → Q (.ref p) H2) → te σ H1 Q
def EvUU (te : TE) (σ : L2.St) (H : Hp) (n : Nat) (rows : Nat → List V) : Prop := ∀ H1, Ex H H1 → ∀ Q : VK, (∀ (p : Addr) (qs : List Addr) (H2 : Hp), H1 p = none → Ex H1 H2 → qs.length = n → H2 p = some (.tup (qs.map V.ref)) → (∀ j q, qs[j]? = some q → H1 q = none ∧ H2 q = some (.tup (rows j))) → Q (.ref p) H2) → te σ H1 Q
theorem yes_at {Q : Bool → Hp → Prop} (h : Q true H) : tYes σ H Q := h
theorem ell_lcT {a : Addr} {xs : List V} {tl : TE} {g : TG} {vs : List Nat} {σ' : Nat → L2.St} (rows : Nat → List V) (h : Ev tl σ H (.ref a)) (hx : SqT K H a xs) (hz : xs.length ≤ 40000)
    (hg : ∀ (i : Nat) (x : V) H1 (Q : L2.St → Hp → Prop), Ex H H1 → xs[i]? = some x → Q (σ' i) H1 → g x (wipe σ vs) H1 Q) (hw : ∀ i, wipe (σ' i) vs = wipe σ vs)
    (he : ∀ (i : Nat) (x : V) H1, Ex H H1 → xs[i]? = some x → EvU te (σ' i) H1 (rows i)) :
    EvLL (tLc (iTup K tl) g tYes te vs) σ H xs.length rows := fun H0 e Q q => h H0 e _ fun H1 e1 => ⟨a, rfl, ⟨xs, ex_t (e.trans e1) hx⟩, fun Dl hD =>
  lc_tup (xs := xs) (fun i H' => H1 Dl = none ∧ Ex H1 H' ∧ ∃ qs : List Addr, qs.length = i ∧ H' Dl = some (.lst (qs.map V.ref)) ∧ ∀ j q, qs[j]? = some q → H1 q = none ∧ H' q = some (.tup (rows j)) ∧ q ≠ Dl) ⟨hD, Ex.new hD, [], rfl, upd_same, fun j q hq => by simp at hq⟩ (fun i H' _ p => ex_t ((e.trans e1).trans p.2.1) hx)
    (fun i x H' hi ⟨p1, p2, qs, p3, p4, p5⟩ => hg i x H' _ ((e.trans e1).trans p2) hi ⟨hw i, by
      refine yes_at (iteT ?_)
      refine he i x H1 (e.trans e1) hi H' p2 _ fun q H4 hq e4 h4 => ⟨qs.map V.ref, e4 _ _ p4, sz_lt (by rw [List.length_map]; have := (List.getElem?_eq_some_iff.mp hi).1; omega), p1, Ex.mut (p2.trans e4) p1, qs ++ [q], by rw [List.length_append, p3] <;> rfl, by rw [upd_same, List.map_append] <;> rfl, fun j r hr => ?_⟩
      have qD : q ≠ Dl := fun z => by rw [z, p4] at hq; cases hq
      by_cases hj : j < qs.length
      · rw [List.getElem?_append_left hj] at hr
        obtain ⟨r1, r2, r3⟩ := p5 j r hr
        exact ⟨r1, by rw [upd_ne r3]; exact e4 _ _ r2, r3⟩
      · have hj2 : j = qs.length := by
          have := (List.getElem?_eq_some_iff.mp hr).1
          rw [List.length_append] at this
          have e1 : ([q] : List Addr).length = 1 := rfl
          omega
        subst hj2
        rw [List.getElem?_append_right (Nat.le_refl _), Nat.sub_self] at hr
        obtain rfl : q = r := Option.some.inj hr
        exact ⟨fresh_back p2 hq, by rw [upd_ne qD, p3]; exact h4, qD⟩⟩)
    (fun H' ⟨p1, p2, qs, p3, p4, p5⟩ => q Dl qs H' (fresh_back e1 p1) (e1.trans p2) p3 p4 fun j r hr => ⟨fresh_back e1 (p5 j r hr).1, (p5 j r hr).2.1⟩)⟩
theorem euu_tuple {n : Nat} {rows : Nat → List V} (h : EvLL te σ H n rows) : EvUU (tCB (fun xs H Q => ∃ p ys, xs = [.ref p] ∧ ((SqL K H p ys ∧ ∀ l, H l = none → Q (.ref l) (upd H l (.tup ys))) ∨ (SqT K H p ys ∧ Q (.ref p) H))) (tCons te tNil)) σ H n rows := fun H1 e Q q =>
  h H1 e _ fun p qs H2 _ e2 hl h2 h3 => ⟨p, qs.map V.ref, rfl, .inl ⟨sq_of h2, fun l hn => q l qs _ (fresh_back e2 hn) (e2.trans (Ex.new hn)) hl upd_same fun j r hr => ⟨(h3 j r hr).1, Ex.new hn _ _ (h3 j r hr).2⟩⟩⟩
theorem q_fldU {p C dx : Addr} {fs : List (Str × V)} {f : Str} {n : Nat} {rows : Nat → List V} (hv : EvUU tv σ H n rows) (ha : Ev ta σ H (.ref p)) (hp : H p = some (.ins C dx fs)) (c : Cls K C) (na : NoAttr K C f) (hl : fs.length < 1000)
    (k : ∀ (t : Addr) (qs : List Addr) (H1 : Hp), ExB p H H1 → qs.length = n → H1 t = some (.tup (qs.map V.ref)) → (∀ j q, qs[j]? = some q → H1 q = some (.tup (rows j))) → H1 p = some (.ins C dx (putF f (.ref t) fs)) → D.nx σ H1) : sFld K ta tv f D σ H :=
  hv H (Ex.refl _) _ fun t qs H1 ht e1 hq h1 h3 => ha H1 e1 _ fun H2 e2 => ⟨p, C, dx, fs, rfl, e2 _ _ (e1 _ _ hp), c, na, hl, k t qs _ (fun b o hb ne => by rw [upd_ne ne]; exact e2 _ _ (e1 _ _ hb)) hq
    (by rw [upd_ne (fun z => by rw [z, hp] at ht; cases ht)]; exact e2 _ _ h1) (fun j q hj => by rw [upd_ne (fun z => by have := (h3 j q hj).1; rw [z, hp] at this; cases this)]; exact e2 _ _ (h3 j q hj).2) upd_same⟩
end
def allWho : List Str := ["ugo", "u", "g", "o", "ug", "uo", "go"]
def allSign : List Str := ["+", "-", "="]
def clFs (who sign what : Str) (t : Addr) : List (Str × V) := putF "_tables" (.ref t) (putF "_what" (.str what) (putF "_sign" (.str sign) (putF "_who" (.str who) [])))
def tabF (who sign what : Str) (i : Nat) : Nat → Nat := partF who sign what (if i = 0 then 114 else if i = 1 then 119 else 120) (if i = 3 then "folder" else "file")
/-- four rows of eight small numbers, all of tuples -/
def TabL (H : Hp) (t : Addr) : Prop := ∃ qs : List Addr, qs.length = 4 ∧ H t = some (.tup (qs.map V.ref)) ∧ ∀ (j : Nat) (q : Addr), qs[j]? = some q → ∃ f : Nat → Nat, (∀ i, i < 8 → f i < 8) ∧ H q = some (.tup (rowV f))
/-- tuples and what has fields stay -/
def KeepT (H H' : Hp) : Prop := (∀ b xs, H b = some (.tup xs) → H' b = some (.tup xs)) ∧ ∀ b C dx f fs, H b = some (.ins C dx (f :: fs)) → H' b = some (.ins C dx (f :: fs))
theorem KeepT.of {H H' : Hp} (e : Ex H H') : KeepT H H' := ⟨fun b xs h => e _ _ h, fun b C dx f fs h => e _ _ h⟩
theorem KeepT.trans {H H1 H2 : Hp} (x : KeepT H H1) (y : KeepT H1 H2) : KeepT H H2 := ⟨fun b xs h => y.1 _ _ (x.1 _ _ h), fun b C dx f fs h => y.2 _ _ _ _ _ (x.2 _ _ _ _ _ h)⟩
theorem TabL.kt {H H' : Hp} {t : Addr} (h : TabL H t) (e : KeepT H H') : TabL H' t := let ⟨qs, h1, h2, h3⟩ := h; ⟨qs, h1, e.1 _ _ h2, fun j q hq => let ⟨f, g1, g2⟩ := h3 j q hq; ⟨f, g1, e.1 _ _ g2⟩⟩
def ClauseAt (a : Ads) (H : Hp) (p : Addr) (who sign what : Str) : Prop := ∃ dx t, H p = some (.ins a.f_Clause dx (clFs who sign what t)) ∧ TabL H t
theorem clFs_cons (who sign what : Str) (t : Addr) : ∃ f fs, clFs who sign what t = f :: fs := by
  cases h : clFs who sign what t with
  | cons f fs => exact ⟨f, fs, rfl⟩
  | nil =>
    have := congrArg (fun l => l.lookup ("_tables" : Str)) h
    unfold clFs at this
    rw [lookup_putF, if_pos rfl] at this
    cases this
theorem ClauseAt.kt {a : Ads} {H H' : Hp} {p : Addr} {who sign what : Str} (m : ClauseAt a H p who sign what) (e : KeepT H H') : ClauseAt a H' p who sign what := by
  obtain ⟨dx, t, h, tb⟩ := m
  obtain ⟨f, fs, ef⟩ := clFs_cons who sign what t
  refine ⟨dx, t, ?_, tb.kt e⟩
  rw [ef] at h ⊢
  exact e.2 _ _ _ _ _ h
theorem ClauseAt.mono {a : Ads} {H H' : Hp} {p : Addr} {who sign what : Str} (m : ClauseAt a H p who sign what) (e : Ex H H') : ClauseAt a H' p who sign what := m.kt (KeepT.of e)
theorem fs_who (who sign what : Str) (t : Addr) : (clFs who sign what t).lookup ("_who" : Str) = some (.str who) := by
  unfold clFs
  rw [lookup_putF, if_neg (by decide +kernel), lookup_putF, if_neg (by decide +kernel), lookup_putF, if_neg (by decide +kernel), lookup_putF, if_pos rfl]
theorem fs_sign (who sign what : Str) (t : Addr) : (clFs who sign what t).lookup ("_sign" : Str) = some (.str sign) := by
  unfold clFs
  rw [lookup_putF, if_neg (by decide +kernel), lookup_putF, if_neg (by decide +kernel), lookup_putF, if_pos rfl]
theorem fs_what (who sign what : Str) (t : Addr) : (clFs who sign what t).lookup ("_what" : Str) = some (.str what) := by
  unfold clFs
  rw [lookup_putF, if_neg (by decide +kernel), lookup_putF, if_pos rfl]
theorem fs_tables (who sign what : Str) (t : Addr) : (clFs who sign what t).lookup ("_tables" : Str) = some (.ref t) := by
  unfold clFs
  rw [lookup_putF, if_pos rfl]
theorem who_ok : ∀ who ∈ allWho, whoOk who := by
  have h : ∀ who ∈ allWho, (who.cps.toList.all fun c => decide (c = 117 ∨ c = 103 ∨ c = 111)) = true ∧ maskN who ≤ 7 ∧ who.cps.size ≤ 3 := by decide +kernel
  intro who hw
  obtain ⟨h1, h2, h3⟩ := h who hw
  exact ⟨fun c hc => of_decide_eq_true (List.all_eq_true.mp h1 c hc), h2, h3⟩
theorem letters_are : ("r" : Str) = sg 114 ∧ ("w" : Str) = sg 119 ∧ ("x" : Str) = sg 120 := by decide +kernel
/-! ### what may be handed for a part -/
def Box (H : Hp) (l : Addr) : Prop := (∃ xs, H l = some (.lst xs)) ∨ (∃ xs, H l = some (.tup xs)) ∨ ∃ kvs, H l = some (.dK kvs)
def AnyE (H : Hp) (x : V) : Prop := (∃ s : Str, x = .str s ∧ s.cps.size ≤ 1000) ∨ ((x = .non ∨ (∃ b, x = .bl b) ∨ ∃ i, x = .int i) ∨ ∃ l, x = .ref l ∧ Box H l)
theorem Box.mono {H H' : Hp} {l : Addr} (h : Box H l) (e : Ex H H') : Box H' l := by
  rcases h with ⟨xs, h⟩ | ⟨xs, h⟩ | ⟨xs, h⟩
  · exact .inl ⟨xs, e _ _ h⟩
  · exact .inr (.inl ⟨xs, e _ _ h⟩)
  · exact .inr (.inr ⟨xs, e _ _ h⟩)
theorem AnyE.mono {H H' : Hp} {x : V} (h : AnyE H x) (e : Ex H H') : AnyE H' x := h.imp id fun h => h.imp id fun ⟨l, ex, b⟩ => ⟨l, ex, b.mono e⟩
theorem AnyE.any {K : PySem.W.Frag} {H : Hp} {x : V} (h : AnyE H x) : KW.AnyV K H x := by
  rcases h with ⟨s, rfl, _⟩ | (rfl | ⟨b, rfl⟩ | ⟨i, rfl⟩) | ⟨l, rfl, b⟩
  · exact .inl rfl
  · exact .inl rfl
  · exact .inl rfl
  · exact .inl rfl
  · refine .inr ⟨l, rfl, ?_⟩
    rcases b with ⟨xs, h⟩ | ⟨xs, h⟩ | ⟨xs, h⟩
    · exact .inl ⟨xs, sq_of h⟩
    · exact .inr (.inl ⟨xs, st_of h⟩)
    · exact .inr (.inr ⟨xs, h⟩)
/-- a text, or of another type -/
theorem AnyE.type {K : PySem.W.Frag} {H : Hp} {x : V} (h : AnyE H x) : (∃ s : Str, x = .str s ∧ s.cps.size ≤ 1000) ∨ ((∀ s, x ≠ .str s) ∧ ∃ t : String, TyE K H x t ∧ kitB t "str" = some false) := by
  rcases h with h | (rfl | ⟨b, rfl⟩ | ⟨i, rfl⟩) | ⟨l, rfl, b⟩
  · exact .inl h
  · exact .inr ⟨(fun _ z => nomatch z), "NoneType", (fun _ _ => .base .non), by decide +kernel⟩
  · exact .inr ⟨(fun _ z => nomatch z), "bool", (fun _ _ => .base (.bl _)), by decide +kernel⟩
  · exact .inr ⟨(fun _ z => nomatch z), "int", (fun _ _ => .base (.int _)), by decide +kernel⟩
  · rcases b with ⟨xs, h⟩ | ⟨xs, h⟩ | ⟨xs, h⟩
    · exact .inr ⟨(fun _ z => nomatch z), "list", (fun _ e => .base (.lst (e _ _ h))), by decide +kernel⟩
    · exact .inr ⟨(fun _ z => nomatch z), "tuple", (fun _ e => .base (.tup (e _ _ h))), by decide +kernel⟩
    · exact .inr ⟨(fun _ z => nomatch z), "dict", (fun _ e => .base (.dK (e _ _ h))), by decide +kernel⟩
/-! ### choices of letters -/
def chB (l : Str) : V → Bool
  | .str v => decide (V.str v = V.str (Txt.join "" (chosen v l)))
  | _ => false
def whoE : List Str := ("" : Str) :: allWho
def joinF (l : List Nat) (p : Nat → Bool) : Str := Txt.join "" ((l.filter p).map fun c => (⟨#[c]⟩ : Str))
theorem ugo_cps : ("ugo" : Str).cps.toList = [117, 103, 111] ∧ ("rwxX" : Str).cps.toList = [114, 119, 120, 88] := by decide +kernel
theorem join_ugo (p : Nat → Bool) : joinF [117, 103, 111] p ∈ whoE := by
  have h : ∀ a b c : Bool, Txt.join "" ((([(117, a), (103, b), (111, c)] : List (Nat × Bool)).filter (·.2)).map fun x => (⟨#[x.1]⟩ : Str)) ∈ whoE := by decide +kernel
  have e : joinF [117, 103, 111] p = Txt.join "" ((([(117, p 117), (103, p 103), (111, p 111)] : List (Nat × Bool)).filter (·.2)).map fun x => (⟨#[x.1]⟩ : Str)) := by
    unfold joinF
    cases h1 : p 117 <;> cases h2 : p 103 <;> cases h3 : p 111 <;> simp [h1, h2, h3]
  rw [e]
  exact h _ _ _
theorem join_rwx (p : Nat → Bool) : joinF [114, 119, 120, 88] p ∈ whats := by
  have h : ∀ a b c d : Bool, Txt.join "" ((([(114, a), (119, b), (120, c), (88, d)] : List (Nat × Bool)).filter (·.2)).map fun x => (⟨#[x.1]⟩ : Str)) ∈ whats := by decide +kernel
  have e : joinF [114, 119, 120, 88] p = Txt.join "" ((([(114, p 114), (119, p 119), (120, p 120), (88, p 88)] : List (Nat × Bool)).filter (·.2)).map fun x => (⟨#[x.1]⟩ : Str)) := by
    unfold joinF
    cases h1 : p 114 <;> cases h2 : p 119 <;> cases h3 : p 120 <;> cases h4 : p 88 <;> simp [h1, h2, h3, h4]
  rw [e]
  exact h _ _ _ _
theorem ugo_facts : ∀ v ∈ whoE, chB "ugo" (.str v) = true := by decide +kernel
theorem rwx_facts : ∀ v ∈ whats, chB "rwxX" (.str v) = true := by decide +kernel
theorem ch_ugo (v : Str) : chB "ugo" (.str v) = decide (v ∈ whoE) := by
  rw [Bool.eq_iff_iff, decide_eq_true_iff]
  refine ⟨fun h => ?_, fun h => ugo_facts v h⟩
  have e : v = Txt.join "" (chosen v "ugo") := by
    have := of_decide_eq_true h
    injection this
  rw [e]
  have := join_ugo fun c => decide (c ∈ v.cps.toList)
  unfold joinF at this
  unfold chosen
  rw [ugo_cps.1]
  exact this
theorem ch_rwx (v : Str) : chB "rwxX" (.str v) = decide (v ∈ whats) := by
  rw [Bool.eq_iff_iff, decide_eq_true_iff]
  refine ⟨fun h => ?_, fun h => rwx_facts v h⟩
  have e : v = Txt.join "" (chosen v "rwxX") := by
    have := of_decide_eq_true h
    injection this
  rw [e]
  have := join_rwx fun c => decide (c ∈ v.cps.toList)
  unfold joinF at this
  unfold chosen
  rw [ugo_cps.2]
  exact this
/-- which part is wrong -/
def whoOf : V → Option Str
  | .str s => if s = "a" then some "ugo" else if s ∈ allWho then some s else none
  | _ => none
theorem whoOf_str (s : Str) : whoOf (.str s) = if s = "a" then some ("ugo" : Str) else if s ∈ allWho then some s else none := rfl
def signB (x : V) : Bool := decide (∃ z ∈ allSign, x = .str z)
def whatB (x : V) : Bool := decide (∃ z ∈ allw, x = .str z)
def dueP (x y z : V) : Option Nat := if whoOf x = none then some 0 else if signB y = false then some 1 else if whatB z = false then some 2 else none
/-- the tests as they are written -/
theorem who_test (x : V) : ((!decide (x = .str "a")) && (decide (x = .str "") || !(chB "ugo" x))) = decide (whoOf x = none) := by
  cases x with
  | str s =>
    rw [ch_ugo, whoOf_str]
    unfold whoE
    by_cases h : s = "a"
    · subst h
      simp
    · have h1 : ¬ (V.str s = V.str "a") := fun z => h (by injection z)
      rw [if_neg h, decide_eq_false h1]
      by_cases h2 : s ∈ allWho
      · have h3 : ¬ (V.str s = V.str "") := fun z => by
          injection z with z
          rw [z] at h2
          exact absurd h2 (by decide +kernel)
        rw [if_pos h2, decide_eq_false h3]
        simp [h2]
      · rw [if_neg h2]
        by_cases h3 : s = ""
        · subst h3; simp
        · simp [h2, h3]
  | _ => simp [whoOf, chB]
theorem what_test (x : V) : ((!decide (∃ z ∈ (["u", "g", "o"] : List Str), x = .str z)) && !(chB "rwxX" x)) = !whatB x := by
  cases x with
  | str s =>
    rw [ch_rwx]
    unfold whatB allw
    by_cases h : s ∈ whats
    · simp [h]
    · by_cases h2 : s = "u"
      · subst h2; simp
      · by_cases h3 : s = "g"
        · subst h3; simp
        · by_cases h4 : s = "o"
          · subst h4; simp
          · simp [h, h2, h3, h4]
  | _ => simp [whatB, chB]
end KL
set_option Elab.async false
set_option linter.all false
set_option maxRecDepth 100000
set_option maxHeartbeats 4000000
namespace KL
open PySem PySem.Spec PyProof.Rows L2 Evl KF
local macro_rules | `(tactic| walk_at "ev") => `(tactic| repeat' (first | exact ev_c | exact ev_var rfl | exact rv_I0 | refine' rv_I ?_ | refine' rv_eq ?_ | refine' rv_ne ?_ | refine' ev_op ?_ ?_ ?_ | exact ea_nil | refine' ea_cons ?_ ?_ | refine' et_test ?_ | refine' et_B ?_ | refine' et_not ?_ | refine' ev_notV ?_))

open PySem
/-! ### BadClause is raised -/
def spBadI (a : Ads) : Sp := fun vs H Q _ => ∃ (e : Addr) (v : V), vs = [.ref e, v] ∧ H e = some (exo e a.x_BadClause none) ∧ ∀ dx, H dx = none → dx ≠ e → Q .non (upd (upd H dx (exd dx [(("at" : Str), v)])) e (exo e a.x_BadClause (some dx)))
def Told (a : Ads) (E : XK) (H : Hp) (n : Nat) : Prop := ∀ d H', H d = none → Ex H H' → H' d = some (.xd [(("at" : Str), .int (n : Nat))]) → E (.ref a.x_BadClause) (some d) H'
theorem Told.back {a : Ads} {E : XK} {H H1 : Hp} {n : Nat} (h : Told a E H n) (e : Ex H H1) : Told a E H1 n := fun d H' hd e' h' => h d H' (fresh_back e hd) (e.trans e') h'
theorem raise_told {a : Ads} {E : XK} {H : Hp} {n : Nat} (h : Told a E H n) : ∀ e, H e = none → spBadI a (.ref e :: ([.int (n : Nat)] ++ [])) (upd H e (exo e a.x_BadClause none)) (fun v H2 => v = .non ∧ ∃ (d : Addr) (fs : List (Str × V)), H2 e = some (exo e a.x_BadClause (some d)) ∧ H2 d = some (exd d fs) ∧ H d = none ∧ E (.ref a.x_BadClause) (some d) (upd (del H2 e) d (.xd fs))) (fun _ _ _ => False) := fun e he =>
  ⟨e, .int (n : Nat), rfl, upd_same, fun dx hdx ne => by
    have hd : H dx = none := by rw [upd_ne ne] at hdx; exact hdx
    refine ⟨rfl, dx, [(("at" : Str), .int (n : Nat))], upd_same, by rw [upd_ne ne, upd_same], hd, h dx _ hd (fun b o hb => ?_) upd_same⟩
    have be := ne_of_none hb he
    have bd := ne_of_none hb hd
    rw [upd_ne bd, del_ne be, upd_ne be, upd_ne bd, upd_ne be]
    exact hb⟩
def Making (a : Ads) (b : Addr) (x y z : V) (H : Hp) (Q : VK) (E : XK) : Prop := (∀ (who sign what : Str) H', whoOf x = some who → y = .str sign → z = .str what → dueP x y z = none → ExB b H H' → ClauseAt a H' b who sign what → Q .non H') ∧ ∀ n, dueP x y z = some n → Told a E H n
def spChoiceA : Sp := fun vs H Q _ => ∃ (x : V) (l : Str), vs = [x, .str l] ∧ AnyE H x ∧ l.cps.size ≤ 20 ∧ ∀ H', Ex H H' → Q (.bl (chB l x)) H'
def spClauseA (a : Ads) : Sp := fun vs H Q E => ∃ (p dx : Addr) (x y z : V), vs = [.ref p, x, y, z] ∧ AnyE H x ∧ AnyE H y ∧ AnyE H z ∧ H p = some (.ins a.f_Clause dx []) ∧ Making a p x y z H Q E
theorem tab_lt {who sign what : Str} {j i : Nat} (h : whoOk who) (hi : i < 8) : tabF who sign what j i < 8 := (partF_eq h hi).2
theorem not_f {b : Bool} (h : (!b) = false) : b = true := by
  cases b
  · exact nomatch h
  · rfl
theorem not_t {b : Bool} (h : (!b) = true) : b = false := by
  cases b
  · rfl
  · exact nomatch h
theorem sign_of {y : V} (h : signB y = true) : ∃ s, y = .str s ∧ s ∈ allSign := let ⟨z, hz, e⟩ := of_decide_eq_true h; ⟨z, e, hz⟩
theorem what_of {y : V} (h : whatB y = true) : ∃ s, y = .str s ∧ s ∈ allw := let ⟨z, hz, e⟩ := of_decide_eq_true h; ⟨z, e, hz⟩
theorem who_of {x : V} {who : Str} (h : whoOf x = some who) : ∃ s, x = .str s ∧ who = (if s = "a" then ("ugo" : Str) else s) ∧ who ∈ allWho := by
  cases x with
  | str s =>
    rw [whoOf_str] at h
    refine ⟨s, rfl, ?_⟩
    by_cases e : s = "a"
    · rw [if_pos e] at h ⊢
      cases h
      exact ⟨rfl, by decide +kernel⟩
    · rw [if_neg e] at h ⊢
      by_cases m : s ∈ allWho
      · rw [if_pos m] at h
        cases h
        exact ⟨rfl, m⟩
      · rw [if_neg m] at h
        cases h
  | _ => cases h
theorem due_none {x y z : V} {who : Str} (h1 : whoOf x = some who) (h2 : signB y = true) (h3 : whatB z = true) : dueP x y z = none := by
  unfold dueP
  rw [if_neg (by rw [h1]; exact fun z => nomatch z), if_neg (by rw [h2]; decide), if_neg (by rw [h3]; decide)]
theorem due_some {x y z : V} (h : dueP x y z = none) : ∃ who sign what, whoOf x = some who ∧ y = .str sign ∧ sign ∈ allSign ∧ z = .str what ∧ what ∈ allw := by
  unfold dueP at h
  by_cases h1 : whoOf x = none
  · rw [if_pos h1] at h; cases h
  rw [if_neg h1] at h
  by_cases h2 : signB y = false
  · rw [if_pos h2] at h; cases h
  rw [if_neg h2] at h
  by_cases h3 : whatB z = false
  · rw [if_pos h3] at h; cases h
  obtain ⟨s, rfl, hs⟩ := sign_of (by simpa using h2)
  obtain ⟨w, rfl, hw⟩ := what_of (by simpa using h3)
  cases hx : whoOf x with
  | none => exact absurd hx h1
  | some who => exact ⟨who, s, w, rfl, rfl, hs, rfl, hw⟩
section
variable {P : Program} {w : World} {K : PySem.W.Frag} {mg : Str → Option Value} {base : Heap} {a : Ads}
theorem ok_BadClause_init (T : Txt w K mg a) : FnOk P w K mg base CX0 1 a.f_BadClauseD_initD a.d_BadClauseD_initD ["self", "at"] (spBadI a) := by
  refine T.fn_BadClauseD_initD.ok sc_BadClauseD_initD (fun vs H Q E h => ?_) (fun cdv A outer s H vs Q E hr h => ?_)
  · obtain ⟨_, _, rfl, _⟩ := h
    rfl
  · obtain ⟨e, v, rfl, he, k⟩ := h
    refine ⟨_, (pss_one (ps_ost (pv 0) (pv 1))), ?_⟩
    exact ⟨v, rfl, .ref e, rfl, e, a.x_BadClause, rfl, T.ox_BadClause, T.np_BadClause, .inl ⟨he, fun dx hdx ne => k dx hdx ne⟩⟩
theorem ok_choice_odd (T : Txt w K mg a) : FnOk P w K mg base CX0 1 a.f_is_choice a.d_is_choice ["value", "letters"] (fun vs H Q _ => ∃ (x : V) (l : Str) (t : String), vs = [x, .str l] ∧ TyE K H x t ∧ kitB t "str" = some false ∧ ∀ H', Ex H H' → Q (.bl false) H') := by
  refine T.fn_is_choice.ok sc_is_choice (fun vs H Q E h => ?_) (fun cdv A outer s H vs Q E hr h => ?_)
  · obtain ⟨_, _, _, rfl, _⟩ := h
    rfl
  · obtain ⟨x, l, t, rfl, ty, kt, k⟩ := h
    refine ⟨_, (pss_cons (ps_if (pt_not (pt_val (pe_callB call_isi (by rfl) T.b_isinstance PyProof.Rows.boot_isinstance (pa_cons (pv 0) (pa_cons (pe_bltn (v := .ty "str") (by rfl) T.b_str (by decide +kernel) rfl) pa_nil))))) (pss_one (ps_ret pe_bl)) pss_nil)
    (pss_one (ps_ret (pe_cmpR op_eq (pv 0) (pe_join pe_str (pe_lc (own := [("letter", 2)]) (g := gName 2) rfl sc_is_choice.nd (pi_str (pv 1)) (blkOk_by (own := [("letter", 2)]) (N := n_is_choice) (sc := defScope s_is_choice) (by decide +kernel)) (fun _ _ _ _ _ => (pg_name (i := 2) sc_is_choice.nd rfl (Or.inl rfl))) (fun _ _ _ _ _ => (pts_one (pt_cmpR op_in_sign (pv 2) (pv 0) (by rfl)))) (fun _ _ _ _ _ => (pv 2)))) (nomark _))))), ?_⟩
    refine q_when (b := true) (et_not (a := false) (et_B (ev_isi (ea_cons (ev_var rfl) (ea_cons ev_c ea_nil)) (.ty _) ty (kit_ty kt)))) (fun _ H1 e1 => ?_) fun z => nomatch z
    exact s_ret (v := .bl false) ev_c fun H2 e2 => k H2 (e1.trans e2)
theorem ok_choice (T : Txt w K mg a) : FnOk P w K mg base CX0 1 a.f_is_choice a.d_is_choice ["value", "letters"] spChoiceA := ((FnOk.either (ok_is_choice T) (ok_choice_odd T)).imp fun vs H Q E ⟨x, l, ev, any, hl, k⟩ => by
  subst ev
  rcases any.type (K := K) with ⟨s, rfl, _⟩ | ⟨no, t, ty, kt⟩
  · exact .inl ⟨s, l, rfl, hl, k⟩
  · refine .inr ⟨x, l, t, rfl, ty, kt, fun H' e => ?_⟩
    have := k H' e
    have z : chB l x = false := by
      cases x with
      | str s => exact absurd rfl (no s)
      | _ => rfl
    rw [z] at this
    exact this)
theorem ok_Clause_initN (T : Txt w K mg a) : FnOk P w K mg base (L2N.CX P w) 5 a.f_ClauseD_initD a.d_ClauseD_initD ["self", "who", "sign", "what"] (spClauseA a) := by
  have G_is_choice : FnOk P w K mg base CX0 3 _ _ _ _ := (ok_choice T).mono (by decide)
  have G_part_of : FnOk P w K mg base CX0 3 _ _ _ _ := ok_part_of T
  have G_BadClause_init : FnOk P w K mg base CX0 2 _ _ _ _ := (ok_BadClause_init T).mono (by decide)
  refine KM.okN T.fn_ClauseD_initD sc_ClauseD_initD (fun vs H Q E h => ?_) (fun cdv A outer s H vs Q E hr h => ?_)
  · obtain ⟨_, _, _, _, _, rfl, _⟩ := h
    rfl
  · obtain ⟨p, dx, x, y, z, rfl, ax, ay, az, hp, good, bad⟩ := h
    have hrc : Room 3 _ := hr.mono (by decide)
    have hrm2 : Room (2 + 1) _ := hr.mono (by decide)
    refine ⟨_, (pss_cons (ps_if (PW.pt (pw_and (pt_cmpR (KW.op_neS rfl hr.units) (pv 1) pe_str (nomark _)) (pw_and1 (PW.pt (pw_or (pt_cmpR (KW.op_eqS rfl hr.units) (pv 1) pe_str (nomark _)) (pw_or1 (pt_not (pt_val (pe_call G_is_choice hrc rfl T.mg_is_choice T.fn_is_choice.kp (bd_is_choice T) .nil pass0 (pa_cons (pv 1) (pa_cons pe_str pa_nil))))))))))) (pss_one (L2N.ps_raise rfl (L2N.takes_of rfl rfl rfl rfl) (L2H.PMk5.pmk <| KM.pmk_oex5 T.ox_BadClause T.ic_BadClause T.it_BadClause G_BadClause_init hrm2 (bd_BadClauseD_initD T) .nil pass0 rfl T.mg_BadClause (pa_cons pe_int pa_nil)))) pss_nil)
    (pss_cons (ps_if (pt_cmpR (KW.op_notInS rfl hr.units) (pv 2) (pe_glob (v := .ref a.k_SIGNS) rfl T.mg_SIGNS rfl) (by rfl)) (pss_one (L2N.ps_raise rfl (L2N.takes_of rfl rfl rfl rfl) (L2H.PMk5.pmk <| KM.pmk_oex5 T.ox_BadClause T.ic_BadClause T.it_BadClause G_BadClause_init hrm2 (bd_BadClauseD_initD T) .nil pass0 rfl T.mg_BadClause (pa_cons pe_int pa_nil)))) pss_nil)
    (pss_cons (ps_if (PW.pt (pw_and (pt_cmpR (KW.op_notInS rfl hr.units) (pv 3) (pe_tup (pa_cons pe_str (pa_cons pe_str (pa_cons pe_str pa_nil)))) (by rfl)) (pw_and1 (pt_not (pt_val (pe_call G_is_choice hrc rfl T.mg_is_choice T.fn_is_choice.kp (bd_is_choice T) .nil pass0 (pa_cons (pv 3) (pa_cons pe_str pa_nil)))))))) (pss_one (L2N.ps_raise rfl (L2N.takes_of rfl rfl rfl rfl) (L2H.PMk5.pmk <| KM.pmk_oex5 T.ox_BadClause T.ic_BadClause T.it_BadClause G_BadClause_init hrm2 (bd_BadClauseD_initD T) .nil pass0 rfl T.mg_BadClause (pa_cons pe_int pa_nil)))) pss_nil)
    (pss_cons (ps_fld (pv 0) (pe_ifExp (pt_cmpR (KW.op_eqS rfl hr.units) (pv 1) pe_str (nomark _)) pe_str (pv 1)) rfl)
    (pss_cons (ps_fld (pv 0) (pv 2) rfl)
    (pss_cons (ps_fld (pv 0) (pv 3) rfl)
    (pss_one (ps_fld (pv 0) (pe_callTy call_tuple_of (by rfl) T.b_tuple (by decide +kernel) (pa_cons (pe_lc (own := [("letter", 4), ("form", 5)]) (g := gTup K 2 (gCons (gName 4) (gCons (gName 5) gNil))) rfl sc_ClauseD_initD.nd (pi_tup (pe_glob (v := .ref a.k_PARTS) rfl T.mg_PARTS rfl)) (blkOk_by (own := [("letter", 4), ("form", 5)]) (N := n_ClauseD_initD) (sc := defScope s_ClauseD_initD) (by decide +kernel)) (fun _ _ _ _ _ => (pg_tup rfl (pgs_cons (pg_name (i := 4) sc_ClauseD_initD.nd rfl (Or.inl rfl)) (pgs_cons (pg_name (i := 5) sc_ClauseD_initD.nd rfl (Or.inl rfl)) pgs_nil)))) (fun _ _ _ _ _ => pts_nil) (fun _ _ _ _ _ => (pe_call G_part_of hrc rfl T.mg_part_of T.fn_part_of.kp (bd_part_of T) .nil pass0 (pa_cons (pe_fldE (K := K) (pv 0) rfl) (pa_cons (pv 2) (pa_cons (pv 3) (pa_cons (pv 4) (pa_cons (pv 5) pa_nil)))))))) pa_nil)) rfl)))))))), ?_⟩
    have choice : ∀ (i : Nat) (v : V) (l : Str) (hl : l.cps.size ≤ 20) (E : XK) (σ : L2.St) (H2 : Hp), AnyE H2 v → σ[i]? = some (some v) → Ev (tCall spChoiceA [] E (tCons (tVar i) (tCons (tC (.str l)) tNil))) σ H2 (.bl (chB l v)) := fun i v l hl E σ H2 av hs =>
      ev_call (vs := [v, .str l]) (ea_cons (ev_var hs) (ea_cons ev_c ea_nil)) fun H3 e3 Q3 q3 E3 => ⟨v, l, rfl, av.mono e3, hl, q3⟩
    refine q_when (b := decide (whoOf x = none)) (et_is (et_and (a := !decide (x = .str "a")) (b := decide (x = .str "") || !(chB "ugo" x)) (et_test (ev_op (ev_var rfl) ev_c (KW.rv_eqS (neg := true) ax.any))) fun _ => et_or (a := decide (x = .str "")) (b := !(chB "ugo" x)) (et_test (ev_op (ev_var rfl) ev_c (KW.rv_eqS (neg := false) ax.any))) fun _ => et_not (et_B (choice 1 x "ugo" (by decide +kernel) _ _ _ ax rfl))) (who_test x)) (fun hb H1 e1 => ?_) fun hb H1 e1 => ?_
    · exact ⟨by show 1 ≤ 1000; decide, raise_told ((bad 0 (by unfold dueP; rw [if_pos (of_decide_eq_true hb)])).back e1)⟩
    have hw := of_decide_eq_false hb
    have ay1 := ay.mono e1
    refine q_when (b := !signB y) (et_test (ev_op (ev_var rfl) ev_c (KW.rv_inS (neg := true) (zs := allSign) ay1.any (T.t_SIGNS _)))) (fun hb2 H2 e2 => ?_) fun hb2 H2 e2 => ?_
    · exact ⟨by show 1 ≤ 1000; decide, raise_told ((bad 1 (by unfold dueP; rw [if_neg hw, if_pos (not_t hb2)])).back (e1.trans e2))⟩
    have hs := not_f hb2
    have e02 := e1.trans e2
    have az2 := az.mono e02
    refine q_when (b := !whatB z) (et_is (et_and (a := !decide (∃ u ∈ (["u", "g", "o"] : List Str), z = .str u)) (b := !(chB "rwxX" z)) (et_test (ev_opU (ev_var rfl) (eu_tup (vs := [.str "u", .str "g", .str "o"]) (ea_cons ev_c (ea_cons ev_c (ea_cons ev_c ea_nil))) (by decide)) fun q H3 hq e3 => KW.rv_inS (neg := true) (zs := ["u", "g", "o"]) (az2.mono e3).any (st_of hq))) fun _ => et_not (et_B (choice 3 z "rwxX" (by decide +kernel) _ _ _ az2 rfl))) (what_test z)) (fun hb3 H3 e3 => ?_) fun hb3 H3 e3 => ?_
    · exact ⟨by show 1 ≤ 1000; decide, raise_told ((bad 2 (by unfold dueP; rw [if_neg hw, if_neg (by rw [hs]; decide), if_pos (not_t hb3)])).back (e02.trans e3))⟩
    have ht := not_f hb3
    obtain ⟨sign, rfl, hsign⟩ := sign_of hs
    obtain ⟨what, rfl, hwhat⟩ := what_of ht
    obtain ⟨who, hwho⟩ : ∃ who, whoOf x = some who := by
      cases hx : whoOf x with
      | none => exact absurd hx hw
      | some who => exact ⟨who, rfl⟩
    obtain ⟨s0, rfl, ew, hwin⟩ := who_of hwho
    have hp3 := e3 _ _ (e02 _ _ hp)
    refine q_fld (y := .str who) (ev_if (b := decide (V.str s0 = V.str "a")) (et_test (ev_op (ev_var rfl) ev_c (KW.rv_eqS (neg := false) (.inl rfl)))) (fun hb => ev_is ev_c (by rw [ew, if_pos (by have := of_decide_eq_true hb; injection this)])) fun hb => ev_is (ev_var rfl) (by rw [ew, if_neg (fun z => of_decide_eq_false hb (by rw [z]))])) (ev_var rfl) hp3 T.c_Clause T.n_who_Clause (by decide) fun H4 e4 hp4 => ?_
    refine q_fld (y := .str sign) (ev_var rfl) (ev_var rfl) hp4 T.c_Clause T.n_sign_Clause (by show 1 < 1000; decide) fun H5 e5 hp5 => ?_
    refine q_fld (y := .str what) (ev_var rfl) (ev_var rfl) hp5 T.c_Clause T.n_what_Clause (by exact Nat.lt_of_le_of_lt (Nat.le_trans (length_putF _ _ _) (Nat.succ_le_succ (length_putF _ _ _))) (by decide)) fun H6 e6 hp6 => ?_
    obtain ⟨p1, p2, p3, p4, ht, h1, h2, h3, h4⟩ := T.t_PARTS H6
    have hwho6 : (putF "_what" (V.str what) (putF "_sign" (V.str sign) (putF "_who" (V.str who) []))).lookup ("_who" : Str) = some (.str who) := by
      rw [lookup_putF, if_neg (by decide +kernel), lookup_putF, if_neg (by decide +kernel), lookup_putF, if_pos rfl]
    have gPart : ∀ (i : Nat) (x : V) (H1 : Hp), Ex H6 H1 → ([.ref p1, .ref p2, .ref p3, .ref p4] : List V)[i]? = some x → ∃ q : Addr, x = .ref q ∧ SqT K H1 q [.str (sg (if i = 0 then 114 else if i = 1 then 119 else 120)), .str (if i = 3 then "folder" else "file")] := fun i x H1 e hi => by
      match i, hi with
      | 0, hi => exact ⟨p1, (Option.some.inj hi).symm, by rw [letters_are.1] at h1; exact ex_t e h1⟩
      | 1, hi => exact ⟨p2, (Option.some.inj hi).symm, by rw [letters_are.2.1] at h2; exact ex_t e h2⟩
      | 2, hi => exact ⟨p3, (Option.some.inj hi).symm, by rw [letters_are.2.2] at h3; exact ex_t e h3⟩
      | 3, hi => exact ⟨p4, (Option.some.inj hi).symm, by rw [letters_are.2.2] at h4; exact ex_t e h4⟩
      | n + 4, hi => simp at hi
    refine q_fldU (n := 4) (rows := fun i => rowV (tabF who sign what i)) (euu_tuple (ell_lcT (xs := [.ref p1, .ref p2, .ref p3, .ref p4]) (σ' := fun i => [some (.ref p), some (.str s0), some (.str sign), some (.str what), some (.str (sg (if i = 0 then 114 else if i = 1 then 119 else 120))), some (.str (if i = 3 then "folder" else "file"))]) (fun i => rowV (tabF who sign what i)) ev_c ht (by show 4 ≤ 40000; decide) (fun i x H1 Q' e hi q => ?_) (fun _ => rfl) (fun i x H1 e hi => ?_))) (ev_var rfl) hp6 T.c_Clause T.n_tables_Clause ?_ ?_
    · obtain ⟨q', rfl, hq'⟩ := gPart i x H1 e hi
      exact ⟨q', _, rfl, hq', rfl, _, _, rfl, _, _, rfl, rfl, q⟩
    · exact eu_call (vs := [.str who, .str sign, .str what, .str (sg (if i = 0 then 114 else if i = 1 then 119 else 120)), .str (if i = 3 then "folder" else "file")]) (ea_cons (ev_fld (ev_var rfl) (e _ _ hp6) T.c_Clause T.n_who_Clause hwho6) (by walk_at "ev")) fun H2 e2 Q2 q2 E2 => ⟨who, sign, what, _, _, rfl, who_ok who hwin, hwhat, q2⟩
    · exact Nat.lt_of_le_of_lt (Nat.le_trans (length_putF _ _ _) (Nat.succ_le_succ (Nat.le_trans (length_putF _ _ _) (Nat.succ_le_succ (length_putF _ _ _))))) (by decide)
    · intro t qs H7 e7 hl h7 hr7 hp7
      exact good who sign what H7 hwho rfl rfl (due_none hwho hs (decide_eq_true ⟨what, hwhat, rfl⟩)) (((((ExB.of e1).trans (ExB.of e2)).trans (ExB.of e3)).trans e4).trans (e5.trans (e6.trans e7))) ⟨dx, t, hp7, qs, hl, h7, fun j q hq => ⟨_, fun i hi => tab_lt (who_ok who hwin) hi, hr7 j q hq⟩⟩
theorem ok_Clause_init (T : Txt w K mg a) : FnOk P w K mg base (L2.CX P w) 5 a.f_ClauseD_initD a.d_ClauseD_initD ["self", "who", "sign", "what"] (spClauseA a) := KM.ofN (ok_Clause_initN T)
theorem ok_Clause_who (T : Txt w K mg a) : FnOk P w K mg base CX0 1 a.f_Clause_who a.d_Clause_who ["self"] (getSp a.f_Clause "_who") := by
  obtain ⟨oc, od, kV, doc, pm, an, cdv, ct, osl, e, lk, hcd⟩ := T.fn_Clause_who.ex
  rw [e]
  exact fn_getter (by rw [← e]; exact lk) hcd sc_Clause_who rfl rfl T.c_Clause T.n_who_Clause
theorem ok_Clause_sign (T : Txt w K mg a) : FnOk P w K mg base CX0 1 a.f_Clause_sign a.d_Clause_sign ["self"] (getSp a.f_Clause "_sign") := by
  obtain ⟨oc, od, kV, doc, pm, an, cdv, ct, osl, e, lk, hcd⟩ := T.fn_Clause_sign.ex
  rw [e]
  exact fn_getter (by rw [← e]; exact lk) hcd sc_Clause_sign rfl rfl T.c_Clause T.n_sign_Clause
theorem ok_Clause_what (T : Txt w K mg a) : FnOk P w K mg base CX0 1 a.f_Clause_what a.d_Clause_what ["self"] (getSp a.f_Clause "_what") := by
  obtain ⟨oc, od, kV, doc, pm, an, cdv, ct, osl, e, lk, hcd⟩ := T.fn_Clause_what.ex
  rw [e]
  exact fn_getter (by rw [← e]; exact lk) hcd sc_Clause_what rfl rfl T.c_Clause T.n_what_Clause
end
end KL
set_option Elab.async false
set_option linter.all false
set_option maxRecDepth 100000
set_option maxHeartbeats 4000000
namespace KL
open PySem PySem.Spec PyProof.Rows L2 Evl KF
local macro_rules | `(tactic| walk_at "ev") => `(tactic| repeat' (first | exact ev_c | exact ev_var rfl | exact rv_I0 | refine' rv_I ?_ | refine' rv_eq ?_ | refine' rv_ne ?_ | refine' ev_op ?_ ?_ ?_ | exact ea_nil | refine' ea_cons ?_ ?_ | refine' et_test ?_ | refine' et_B ?_ | refine' et_not ?_ | refine' ev_notV ?_))

open PySem
structure CountAt (x : Str) (t : Tok) (e it : Addr) (i : Nat) (h : Heap) : Prop where
  en : ∃ old, IsEnum h e it (i : Int) old
  txt : h.IsStrIter it (strIterType x) x t i
section
variable {x : Str} {t : Tok} {e it : Addr} {i : Nat} {h h' : Heap}
theorem CountAt.obj (q : CountAt x t e it i h) : ∀ c ∈ [e, it], ∃ o, h.get? c = some o ∧ ∀ v, o.data ≠ .cell v := by
  obtain ⟨old, he⟩ := q.en
  obtain ⟨p1, g1, _, n1⟩ := q.txt
  exact two ⟨_, he, nofun⟩ ⟨p1, g1, by rw [n1]; exact nofun⟩
theorem CountAt.lt (q : CountAt x t e it i h) : ∀ c ∈ [e, it], c < h.objs.size := fun c m => let ⟨_, g, _⟩ := q.obj c m; Heap.lt_size g
theorem CountAt.keep (q : CountAt x t e it i h) (k : ∀ c ∈ [e, it], ∀ o, h.get? c = some o → h'.get? c = some o) : CountAt x t e it i h' := by
  obtain ⟨old, he⟩ := q.en
  obtain ⟨p1, g1, n1⟩ := q.txt
  refine ⟨⟨old, k e ?_ _ he⟩, ⟨p1, k it ?_ _ g1, n1⟩⟩ <;> simp
end
def ItEn (x : Str) : It :=
  ⟨fun i _ => i < x.cps.size, fun i H v H' => ∃ (T : Addr) (c : Nat), v = .ref T ∧ H T = none ∧ H' = upd H T (.tup [.int (i : Nat), .str ⟨#[c]⟩]) ∧ x.cps[i]? = some c, fun i _ => i = x.cps.size⟩
theorem turn_enS {P : Program} {w : World} {K : PySem.W.Frag} {elts : List Expr} {kk : Nat} {tpos : Pos} {x : Str} {t : Tok} {e it : Addr} (ne : e ≠ it) :
    Turn P w K (.Tuple elts kk tpos) (ItEn x) [e, it] e (CountAt x t e it) where
  mem := List.mem_cons_self ..
  obj := fun _ _ q => q.obj
  keep := fun _ _ _ q k => q.keep k
  self := fun _ _ _ _ _ q k => let ⟨_, he⟩ := q.en; wpAny_pyIter_enum he k
  item := by
    intro X e1 e2 e3 calm i pins s σ H E I free st more
    subst e1 e2 e3
    have quiet : X.A.in1.handled = none := I.ok.hd calm
    obtain ⟨old, he⟩ := st.en
    refine wpAny_pyNext_enum_itemC (Draws.text quiet it x t) he st.txt more ne (fun m => ne (List.mem_singleton.mp m)) fun w1 g tk src out s1 gT _ rest => ?_
    obtain ⟨c, t1, hc, rfl⟩ := src
    have elt := st.lt e (List.mem_cons_self ..)
    refine ⟨_, rfl, wpAny_letOwnedTupleGo_enum (s := { s with heap := g, toks := tk + 1 }) out fun g' en' but => ?_⟩
    have gT' := (but.2 _ (Nat.ne_of_gt elt)).trans gT
    have pair : ObjOk X.prog X.w (upd H s.heap.objs.size (.tup [.int (i : Nat), .str ⟨#[c]⟩])) g' s.heap.objs.size (.tup [.int (i : Nat), .str ⟨#[c]⟩]) := ⟨by show 2 ≤ sizeLine; decide, [.int (i : Nat) tk, .str ⟨#[c]⟩ t1], .cons ⟨tk, rfl⟩ (.cons ⟨t1, rfl⟩ .nil), ⟨_, gT', rfl, _, rfl⟩⟩
    have far : ∀ c' o, c' ∉ [e, it] → s.heap.get? c' = some o → g'.get? c' = some o := fun c' o n q => by
      obtain ⟨n1, n2⟩ := off2 n
      exact (but.2 c' n1).trans (rest c' o n1 n2 q)
    refine ⟨.ref s.heap.objs.size, _, I.turnedNew (t' := tk + 1) (ch := [e, it]) far free (Nat.le_refl _) pair, rfl, ⟨_, c, rfl, I.hok.fresh (Nat.le_refl _), rfl, hc⟩, ?_, fun c' m => ?_⟩
    · obtain ⟨p1, q1, r1⟩ := s1
      refine ⟨⟨.str ⟨#[c]⟩ t1, ?_⟩, ⟨p1, (but.2 _ ne.symm).trans q1, r1⟩⟩
      rw [show ((i + 1 : Nat) : Int) = (i : Int) + 1 by omega]
      exact en'
    · exact (upd_ne (Nat.ne_of_lt (st.lt c' m))).trans (free c' m).1
  done := by
    intro X e1 e2 e3 calm i pins s σ H E I free st over
    subst e1 e2 e3
    have over : i = x.cps.size := over
    subst over
    have quiet : X.A.in1.handled = none := I.ok.hd calm
    obtain ⟨old, he⟩ := st.en
    exact wpAny_pyNext_enum_endD (Draws.text quiet it x t) he st.txt fun g rest => ⟨rfl, I.turnedL (t' := s.toks) (ch := [e, it]) (fun c o n q => rest c o (off2 n).2 q) free⟩
def iEnS (te : TE) : TI := fun σ H R => te σ H fun v H1 => ∃ x, v = .str x ∧ R (ItEn x) H1
theorem pi_enS {X : Cx} {d : Expr} {te : TE} {p pos tpos : Pos} {elts : List Expr} {kk : Nat} (hg : Gl X "enumerate") (hm : X.mg "enumerate" = none) (ha : PE X d te) (flat : starEach [d] X.env = (false, eval d X.env) :: starEach [] X.env := by rfl)
    (plain : (backTo pos (starEach [] X.env)).any (·.1) = false := by rfl) : PI X (.Tuple elts kk tpos) (.Call (.Name "enumerate" p) [d] [] pos) (iEnS te) where
  run := fun pins s σ H R I start => by
    have one : PA X [d] (tCons te tNil) := pa_cons (hs := flat) ha pa_nil
    refine Call_ (ld_blt I hg hm PyProof.Rows.boot_enumerate (PyProof.Rows.callWith_type1 (thn (one.run pos pins s σ H (fun vs H1 => ∃ x, vs = [.str x] ∧ R (ItEn x) H1) I ?st) fun us s1 ⟨vs, H1, J, r, q⟩ => ?_) flat plain))
    case st =>
      show te σ H fun v H1 => ∃ x, [v] = [V.str x] ∧ R (ItEn x) H1
      have : (fun v H1 => ∃ x, v = V.str x ∧ R (ItEn x) H1) = fun v H1 => ∃ x, [v] = [V.str x] ∧ R (ItEn x) H1 := by
        funext v H1
        simp
      rw [← this]
      exact start
    obtain ⟨x, ev, go⟩ := q
    subst ev
    cases r with | cons q1 q2 => ?_
    cases q2
    obtain ⟨t, rfl⟩ := q1
    have young : ∀ j, FpOk X pins H1 (s1.heap.objs.size + j) := fun j => J.fpOk (Nat.le_add_right ..) (J.hok.fresh (Nat.le_add_right ..))
    refine call_enumerate_str fun g gE g1 _ rest => wpAny_pyIter_enum gE ?_
    exact ⟨s1.heap.objs.size + 1, _, CountAt x t (s1.heap.objs.size + 1) s1.heap.objs.size, ItEn x, H1, rfl, J.kept (t' := s1.toks) rest, turn_enS (Nat.succ_ne_self _), ⟨⟨_, gE⟩, g1⟩, two (young 1) (young 0), go⟩
def tMakeV (i : Nat) (C : Addr) (sp : Sp) (E : XK) (t : TA) : TE := fun σ H Q => σ[i]? = some (some (.ref C)) ∧ StX.tMakeR C sp E t σ H Q
section
variable {X : Cx} {CX : CXT} {k i : Nat} {f C : Addr} {sp : Sp} {E : XK} {x : Str} {e : Expr} {es : List Expr} {te : TE} {t : TA} {p q pos : Pos}
theorem pe_makeV (M : Mk X.K C f) (F : FnR X.prog X.w X.K X.mg X.base CX k f sp) (room : Room (k + 1) X.A) (hx : Passes CX X E) (hN : X.N[i]? = some x) (hv : Vis X.env.scope x) (ha : PA X (e :: es) t) (hd : (x == ("__debug__" : Str)) = false := by decide)
    (hcd : (x == ("__classdict__" : Str)) = false := by decide) (first : starEach (e :: es) X.env = (false, eval e X.env) :: starEach es X.env := by rfl) (plain : (backTo pos (starEach es X.env)).any (·.1) = false := by rfl) :
    PE X (.Call (.Name x p) (e :: es) [] pos) (tMakeV i C sp E t) where
  run := fun pins s σ H Q I ⟨here, go⟩ => by
    refine wpAny_Call_Name_kw (thn ((pe_var (pos := p) (i := i) hN hv hd hcd).run pins s σ H (fun v H1 => v = .ref C ∧ H1 = H) I ⟨.ref C, here, rfl, rfl⟩) fun u s1 ⟨v, H1, I1, r1, ev, eH⟩ => ?_)
    subst ev eH
    obtain rfl : u = Value.ref C := r1
    exact PySem.W.callWith_K (h₀ := X.base) I.ok.mod.kin M.kp (thn (ha.run pos pins s1 σ _ _ I1 go) fun us s2 ⟨vs, H2, I2, r, want⟩ => ⟨I2.kIn, StX.run_makeR M F room hx I2 r want⟩) first plain
end
section
variable {X : Cx} {CX : CXT} {C g : Addr} {n : Nat} {sp : Sp} {E : XK}
def rStrOwn (C : Addr) (sp : Sp) (E : XK) : List V → Hp → VK → Prop := fun xs H Q => ∃ a dx fs, xs = [V.ref a] ∧ H a = some (.ins C dx fs) ∧ sp [.ref a] H (fun z H' => ∃ s, z = .str s ∧ Q z H') E
theorem call_strOwn (hs : PySem.W.findIn X.K (.ref C) "__str__" = some (some (.ref g))) (hf : PySem.W.isFn X.K (.ref g) = true) (F : FnR X.prog X.w X.K X.mg X.base CX n g sp) (hr : Room (n + 2) X.A) (hx : Passes CX X E) : CallR X (.type "str") (rStrOwn C sp E) := by
  intro pins s σ H xs us Q I r start
  obtain ⟨a, dx, fs, rfl, hsl, q⟩ := start
  obtain ⟨u, rfl, ru⟩ := r.one
  obtain rfl : u = Value.ref a := ru
  obtain ⟨ox, od, J, _⟩ := StX.insC_at (X := X) I (.inr ⟨dx, fs, hsl⟩)
  have low : Room (n + 1) X.A.in1 := Room.in1 hr
  have hr2 : Room n X.A.in1.in1 := low.in1
  refine PySem.W.kso_call hr2.units0 I.kIn J hs hf (wpAny_mono (wpAny_call (SlX.run_at (us := [.ref a]) (ws := [.ref a]) F hr2 I.env0.in1.in1 hx I (.cons rfl .nil) q)) (fun w s' z => ?_) fun _ _ x => x)
  obtain ⟨z', H', I', rz, s2, ei, qz⟩ := z
  subst ei
  obtain ⟨t, e⟩ := (show ∃ t, w = Value.str s2 t from rz)
  cases e
  exact ⟨.str s2, H', I', ⟨t, rfl⟩, qz⟩
end
section
variable {K : PySem.W.Frag} {σ : L2.St} {H H' : Hp} {ta tb te tx tv : TE} {t : TT} {x y z v : V} {r : R2} {D : Ends} {tz tu : TS}
theorem q_forEnS {s : Str} {i1 i2 : Nat} (h : Ev te σ H (.str s)) (Pv : Nat → L2.St → Hp → Prop) (h0 : ∀ H1, Ex H H1 → Pv 0 σ H1)
    (hs : ∀ (i c : Nat) σ' H', s.cps.toList[i]? = some c → Pv i σ' H' → ∀ H2, Ex H' H2 → tu { D with nx := Pv (i + 1), ct := Pv (i + 1), bk := tz D } ((σ'.set i1 (some (.int (i : Nat)))).set i2 (some (.str ⟨#[c]⟩))) H2) (hd : ∀ σ' H', Pv s.cps.size σ' H' → tz D σ' H') :
    tSeq (tFor (iEnS te) (gTup K 2 (gCons (gName i1) (gCons (gName i2) gNil))) tu) tz D σ H :=
  h H (Ex.refl H) _ fun H1 e1 => ⟨s, rfl, fun i m σ' H' => m = s.cps.size - i ∧ i ≤ s.cps.size ∧ Pv i σ' H', ⟨s.cps.size, by simp, Nat.zero_le _, h0 H1 e1⟩, by
    rintro i m σ' H' ⟨rfl, hi, p⟩
    by_cases hlt : i < s.cps.size
    · refine .inr ⟨hlt, Pv (i + 1), fun σ2 H2 p' => ⟨s.cps.size - (i + 1), by omega, rfl, hlt, p'⟩, ?_⟩
      rintro x H2 ⟨T, c, rfl, hT, rfl, hc⟩
      rw [← Array.getElem?_toList] at hc
      exact ⟨T, _, rfl, st_of upd_same, rfl, _, _, rfl, _, _, rfl, rfl, hs i c σ' H' hc p _ (Ex.new hT)⟩
    · have e : i = s.cps.size := by omega
      subst e
      exact .inl ⟨rfl, hd σ' H' p⟩⟩
theorem ev_slS {tl th : TO} {s : Str} {lo hi : Option Int} (h : Ev te σ H (.str s)) (h1 : EvO tl σ H lo) (h2 : EvO th σ H hi) (hz : s.length ≤ 100000) : Ev (tSl rSlS te tl th) σ H (.str (cutS s lo hi)) := fun H1 e Q q =>
  h H1 e _ fun H2 e2 => h1 H2 (e.trans e2) _ fun H3 e3 => h2 H3 ((e.trans e2).trans e3) _ fun H4 e4 => ⟨s, rfl, sz_of hz, q H4 ((e2.trans e3).trans e4)⟩
end
theorem ev_joined3 {t1 t2 t3 : TE} {σ : L2.St} {H : Hp} {x y z : Str} (h1 : Ev t1 σ H (.str x)) (h2 : Ev t2 σ H (.str y)) (h3 : Ev t3 σ H (.str z)) (l : x.length + y.length + z.length ≤ 100000) :
    Ev (fun σ H Q => tJs [tFmt t1, tFmt t2, tFmt t3] Str.empty σ H fun out H1 => Q (.str out) H1) σ H (.str (Str.empty ++ x ++ y ++ z)) := fun H0 e Q q => by
  have l0 : (Str.empty ++ x).length = x.length := by show (Str.empty.cps ++ x.cps).size = _; rw [Array.size_append]; show 0 + x.cps.size = x.cps.size; omega
  have l1 : (Str.empty ++ x ++ y).length = x.length + y.length := by show ((Str.empty ++ x).cps ++ y.cps).size = _; rw [Array.size_append]; show (Str.empty ++ x).length + y.length = _; omega
  have l2 : (Str.empty ++ x ++ y ++ z).length = x.length + y.length + z.length := by show ((Str.empty ++ x ++ y).cps ++ z.cps).size = _; rw [Array.size_append]; show (Str.empty ++ x ++ y).length + z.length = _; omega
  exact h1 H0 e _ fun H2 e2 => .inl ⟨x, rfl, sz_of (by omega), x, rfl, by rw [l0]; exact sz_of (by omega), h2 H2 (e.trans e2) _ fun H3 e3 => .inl ⟨y, rfl, sz_of (by omega), y, rfl, by rw [l1]; exact sz_of (by omega), h3 H3 ((e.trans e2).trans e3) _ fun H4 e4 => .inl ⟨z, rfl, sz_of (by omega), z, rfl, by rw [l2]; exact sz_of (by omega), q H4 ((e2.trans e3).trans e4)⟩⟩⟩
theorem ev_strOwn {C : Addr} {sp : Sp} {E : XK} {te : TE} {σ : L2.St} {H : Hp} {p dx : Addr} {fs : List (Str × V)} {s : Str} (h : Ev te σ H (.ref p)) (ho : H p = some (.ins C dx fs)) (hs : SpV sp [.ref p] H (.str s)) : Ev (tCB (rStrOwn C sp E) (tCons te tNil)) σ H (.str s) := fun H1 e Q q =>
  h H1 e _ fun H2 e2 => ⟨p, dx, fs, rfl, e2 _ _ (e _ _ ho), hs H2 (e.trans e2) _ (fun H3 e3 => ⟨s, rfl, q H3 (e2.trans e3)⟩) E⟩
section
variable {X : Cx} {CX : CXT} {k : Nat} {C p g : Addr} {mc : Value} {sp : Sp} {E : XK} {o : Expr} {m : Str} {pos apos : Pos} {ta : TE} {tk : TA} {fd : FuncData} {ps ks : List Str} {kws : List Keyword} {gg : List Value → List Value → List Value} {gV : List V → List V → List V}
def tCMethK (C : Addr) (sp : Sp) (gV : List V → List V → List V) (E : XK) (ta : TE) (tk : TA) : TE := fun σ H Q => ta σ H fun x H1 => x = .ref C ∧ tk σ H1 fun zs H2 => sp (gV [.ref C] zs) H2 Q E
theorem pe_cmethK {pl : Sem Bool} (he : PE X o ta) (r : ClX.CRead X.K C mc) (c : ClX.CMet X.K C mc m p g) (F : FnOk X.prog X.w X.K X.mg X.base CX k g fd ps sp) (hr : Room k X.A) (hb : KBinds X.K fd ps ks gg gV) (hx : Passes CX X E) (hkw : PK X kws tk)
    (hall : (backToKw pos (keywordEach kws X.env)).all (·.1.isSome) = true := by rfl) (hks : (backToKw pos (keywordEach kws X.env)).filterMap (·.1) = ks := by rfl)
    (hpl : ((backTo pos (starEach [] X.env)).any (·.1) || (backToKw pos (keywordEach kws X.env)).any (·.1.isNone)) = false := by rfl)
    (ht : eval (.Call (.Attribute o m apos) [] kws pos) X.env = (do
      let ov ← eval o X.env
      standAt apos.atName
      let (f, first) ← holding [ov] (getMethod ov m pl)
      callWith pos f first (backTo pos (starEach [] X.env)) (backToKw pos (keywordEach kws X.env))) := by rfl) :
    PE X (.Call (.Attribute o m apos) [] kws pos) (tCMethK C sp gV E ta tk) := by
  refine ⟨fun pins s σ H Q I h => ?_⟩
  refine PySem.W.methodCall_KW (pl := pl) (thn (he.run pins s σ H _ I h) fun u s1 ⟨x, H1, I1, rx, ex, q⟩ => ?_) ht
  subst ex
  obtain rfl : u = Value.ref C := rx
  refine ClX.getmethcm_ok I1 r c fun s2 I2 => ?_
  refine PySem.W.callWith_of (P := PySem.W.MethP X.K s1.heap.objs.size g (.ref C)) hpl (PySem.W.keeps_M c.fi) (PyProof.Rows.evalArgs_kw2_nil hall (thn (hkw.run pos _ s2 σ H1 _ I2 q) fun ws s3 ⟨zs, H2, I3, rz, q2⟩ => ⟨⟨ClX.pin_at I3, I3.kIn⟩, ?_⟩))
  rw [hks]
  have r2 := hb.rel (vs := [.ref C]) (us := [.ref C]) (.cons rfl .nil) rz
  have hl : (gg [.ref C] ws).length = ps.length := by rw [← r2.length]; exact F.len _ _ _ _ q2
  have z : wpAny (model X.prog X.w) X.A (call (.ref s1.heap.objs.size) ([] ++ []) (ks.zip ws)) (EP X ((s1.heap.objs.size, PySem.W.methodObj (.ref g) (.ref C)) :: pins) σ Q) X.xe s3 := by
    refine wpAny_call (PySem.W.method_call (ClX.pin_at I3) (codeAny_mono (F.run X.A X.stack s3 H2 ⟨[.ref C], ks.zip ws⟩ (gg [.ref C] ws) (gV [.ref C] zs) Q E hr I3.env0 (hb.to s3 [.ref C] ws I3.kIn hl) r2 q2) fun r s' hq => ?_))
    cases r with
    | error e => exact hx _ σ H2 s3 e s' I3 hq
    | ok fl =>
      cases fl with
      | ret u => exact I3.after hq
      | next => exact False.elim hq
      | brk => exact False.elim hq
      | cont => exact False.elim hq
  exact thn z fun _ _ y => ClX.unpinE y
end
def gC1 (us ws : List V) : List V := match us, ws with | [x], [f] => [x, f] | _, _ => []
def gC1v (us ws : List Value) : List Value := match us, ws with | [x], [f] => [x, f] | _, _ => []
theorem kb_read {w : World} {K : PySem.W.Frag} {mg : Str → Option Value} {a : Ads} (T : Txt w K mg a) : KBinds K a.d_Clause_read ["cls", "text"] ["text"] gC1v gC1 where
  to := fun s us ws X hl => by
    obtain ⟨oc, od, kV, doc, pm, an, cdv, ct, osl, e, lk, hcd⟩ := T.fn_Clause_read.ex
    rw [e]
    match us, ws, hl with
    | [x], [f], _ => exact .of_eq rfl
  rel := fun {vs us zs ws} r1 r2 => by
    cases r1 with
    | nil => exact .nil
    | cons h1 t1 =>
      cases t1 with
      | cons _ _ => exact .nil
      | nil =>
        cases r2 with
        | nil => exact .nil
        | cons h2 t2 =>
          cases t2 with
          | nil => exact .cons h1 (.cons h2 .nil)
          | cons _ _ => exact .nil

end KL
set_option Elab.async false
set_option linter.all false
set_option maxRecDepth 100000
set_option maxHeartbeats 4000000
namespace KL
open PySem PySem.Spec PyProof.Rows L2 Evl KF
local macro_rules | `(tactic| walk_at "ev") => `(tactic| repeat' (first | exact ev_c | exact ev_var rfl | exact rv_I0 | refine' rv_I ?_ | refine' rv_eq ?_ | refine' rv_ne ?_ | refine' ev_op ?_ ?_ ?_ | exact ea_nil | refine' ea_cons ?_ ?_ | refine' et_test ?_ | refine' et_B ?_ | refine' et_not ?_ | refine' ev_notV ?_))

open PySem
/-! ### Clause.read of anything -/
def isSign (c : Nat) : Bool := decide (∃ z ∈ allSign, V.str ⟨#[c]⟩ = .str z)
def firstS (s : Str) : Option Nat := s.cps.toList.findIdx? isSign
def pieces (s : Str) : Option (Str × Str × Str) := (firstS s).map fun i => (cutS s none (some (i : Nat)), ⟨#[s.cps.toList.getD i 0]⟩, cutS s (some ((i : Nat) + 1)) none)
def dueT : V → Option Nat
  | .str s => match pieces s with
    | none => some 1
    | some (x, y, z) => dueP (.str x) (.str y) (.str z)
  | _ => some 1
def Reads (a : Ads) (x : V) (H : Hp) (Q : VK) (E : XK) : Prop := (∀ (s who0 who sign what : Str) (p : Addr) H', x = .str s → pieces s = some (who0, sign, what) → dueP (.str who0) (.str sign) (.str what) = none → whoOf (.str who0) = some who → H p = none → Ex H H' → ClauseAt a H' p who sign what → Q (.ref p) H') ∧ ∀ n, dueT x = some n → Told a E H n
def spRead (a : Ads) : Sp := fun vs H Q E => ∃ (x : V), vs = [.ref a.f_Clause, x] ∧ AnyE H x ∧ Reads a x H Q E
theorem cutS_size (s : Str) (lo hi : Option Int) : (cutS s lo hi).cps.size ≤ s.cps.size := by
  have : (cutS s lo hi).cps.toList.length ≤ s.cps.toList.length := by
    unfold cutS
    simp [List.length_take, List.length_drop]
    omega
  simpa using this
section
variable {P : Program} {w : World} {K : PySem.W.Frag} {mg : Str → Option Value} {base : Heap} {a : Ads}
theorem ok_Clause_readN (T : Txt w K mg a) : FnOk P w K mg base (L2N.CX P w) 7 a.f_Clause_read a.d_Clause_read ["cls", "text"] (spRead a) := by
  have G_Clause_init : FnOk P w K mg base (L2N.CX P w) 5 _ _ _ _ := ok_Clause_initN T
  have G_BadClause_init : FnOk P w K mg base CX0 5 _ _ _ _ := (ok_BadClause_init T).mono (by decide)
  refine KM.okN T.fn_Clause_read sc_Clause_read (fun vs H Q E h => ?_) (fun cdv A outer s H vs Q E hr h => ?_)
  · obtain ⟨_, rfl, _⟩ := h
    rfl
  · obtain ⟨x, rfl, ax, good, bad⟩ := h
    have hrm : Room (5 + 1) _ := hr
    have hrm2 : Room (5 + 1) _ := hr
    refine ⟨_, (pss_cons (ps_if (pt_not (pt_val (pe_callB call_isi (by rfl) T.b_isinstance PyProof.Rows.boot_isinstance (pa_cons (pv 1) (pa_cons (pe_bltn (v := .ty "str") (by rfl) T.b_str (by decide +kernel) rfl) pa_nil))))) (pss_one (L2N.ps_raise rfl (L2N.takes_of rfl rfl rfl rfl) (L2H.PMk5.pmk <| KM.pmk_oex5 T.ox_BadClause T.ic_BadClause T.it_BadClause G_BadClause_init hrm2 (bd_BadClauseD_initD T) .nil pass0 rfl T.mg_BadClause (pa_cons pe_int pa_nil)))) pss_nil)
    (pss_cons (ps_for (passes_of rfl) rfl (pi_enS (by rfl) T.b_enumerate (pv 1)) (pg_tup rfl (pgs_cons (pg_name (i := 2) sc_Clause_read.nd rfl (Or.inl rfl)) (pgs_cons (pg_name (i := 3) sc_Clause_read.nd rfl (Or.inl rfl)) pgs_nil))) (pss_one (ps_if (pt_cmpR (KW.op_inS rfl hr.units) (pv 3) (pe_glob (v := .ref a.k_SIGNS) rfl T.mg_SIGNS rfl) (by rfl)) (pss_one (ps_ret (pe_makeV (i := 0) T.mk_Clause (G_Clause_init.raw (bd_ClauseD_initD T) .nil) hrm (L2N.passes_call (L2N.takes_of rfl rfl rfl rfl) fun _ _ _ _ h => h) rfl (Or.inl rfl) (pa_cons (pe_slice sl_str (pv 1) po_none (po_some (pv 2))) (pa_cons (pv 3) (pa_cons (pe_slice sl_str (pv 1) (po_some (pe_op op_add (pv 2) pe_int)) po_none) pa_nil)))))) pss_nil)))
    (pss_one (L2N.ps_raise rfl (L2N.takes_of rfl rfl rfl rfl) (L2H.PMk5.pmk <| KM.pmk_oex5 T.ox_BadClause T.ic_BadClause T.it_BadClause G_BadClause_init hrm2 (bd_BadClauseD_initD T) .nil pass0 rfl T.mg_BadClause (pa_cons pe_int pa_nil)))))), ?_⟩
    rcases ax.type (K := K) with ⟨t, rfl, sz⟩ | ⟨no, t, ty, kt⟩
    · refine q_when (b := false) (et_not (a := true) (et_B (ev_isi (ea_cons (ev_var rfl) (ea_cons ev_c ea_nil)) (.ty _) (fun _ _ => .base (.str _)) (kit_ty (by decide +kernel))))) (fun z => nomatch z) fun _ H1 e1 => ?_
      refine q_forEnS (K := K) (ev_var rfl) (fun i σ' H' => i ≤ t.cps.size ∧ Ex H H' ∧ (∀ j, j < i → ∀ c, t.cps.toList[j]? = some c → isSign c = false) ∧ ∃ o2 o3, σ' = [some (.ref a.f_Clause), some (.str t), o2, o3]) (fun H2 e2 => ⟨Nat.zero_le _, e1.trans e2, (fun _ z => absurd z (Nat.not_lt_zero _)), _, _, rfl⟩) (fun i c σ' H' hc q H2 e2 => ?_) (fun σ' H' q => ?_)
      · obtain ⟨hi, e, no, o2, o3, rfl⟩ := q
        have hlt : i < t.cps.toList.length := (List.getElem?_eq_some_iff.mp hc).1
        refine s_when (b := isSign c) (et_test (ev_op (ev_var rfl) ev_c (KW.rv_inS (neg := false) (zs := allSign) (.inl rfl) (T.t_SIGNS _)))) (fun hb H3 e3 => ?_) (fun hb H3 e3 => ?_)
        · have fs : firstS t = some i := by
            unfold firstS
            rw [List.findIdx?_eq_some_iff_getElem]
            refine ⟨hlt, ?_, fun j hj => ?_⟩
            · rw [(List.getElem?_eq_some_iff.mp hc).2]
              exact hb
            · have := no j hj _ (List.getElem?_eq_getElem (Nat.lt_trans hj hlt))
              rw [this]
              decide
          have hcd : t.cps.toList.getD i 0 = c := by simp [List.getD, hc]
          have pc : pieces t = some (cutS t none (some (i : Nat)), ⟨#[c]⟩, cutS t (some ((i : Nat) + 1)) none) := by
            unfold pieces
            rw [fs]
            show some (cutS t none (some (i : Nat)), (⟨#[t.cps.toList.getD i 0]⟩ : Str), cutS t (some ((i : Nat) + 1)) none) = _
            rw [hcd]
          have hA : EvA (tCons (tSl rSlS (tVar 1) tNoPart (tPart (tVar 2))) (tCons (tVar 3) (tCons (tSl rSlS (tVar 1) (tPart (tOp (rI0 fun i j => .int (i + j)) (tVar 2) (tC (.int 1)))) tNoPart) tNil))) [some (.ref a.f_Clause), some (.str t), some (.int (i : Nat)), some (.str ⟨#[c]⟩)] H3 [.str (cutS t none (some (i : Nat))), .str ⟨#[c]⟩, .str (cutS t (some ((i : Nat) + 1)) none)] :=
            ea_cons (ev_slS (ev_var rfl) eo_none (eo_some (ev_var rfl)) (show t.cps.size ≤ _ by omega)) (ea_cons (ev_var rfl) (ea_cons (ev_slS (ev_var rfl) (eo_some (ev_op (ev_var rfl) ev_c rv_I0)) eo_none (show t.cps.size ≤ _ by omega)) ea_nil))
          refine ⟨rfl, hA H3 (Ex.refl _) _ fun H4 e4 x dx hx hdx hne => ?_⟩
          have e04 : Ex H H4 := ((e.trans e2).trans e3).trans e4
          have hx2 : upd H4 dx (.own x) x = none := by rw [upd_ne (Ne.symm hne)]; exact hx
          have en : Ex H4 (upd (upd H4 dx (.own x)) x (.ins a.f_Clause dx [])) := (Ex.new hdx).trans (Ex.new hx2)
          have z1 := cutS_size t none (some (i : Nat))
          have z2 := cutS_size t (some ((i : Nat) + 1)) none
          refine ⟨x, dx, _, _, _, rfl, .inl ⟨_, rfl, by omega⟩, .inl ⟨_, rfl, by show 1 ≤ 1000; decide⟩, .inl ⟨_, rfl, by omega⟩, upd_same, fun who sign what H5 hw es ew dn k5 cl => ⟨rfl, ?_⟩, fun n hn => ?_⟩
          · cases es
            cases ew
            exact good t _ who _ _ x H5 rfl pc dn hw (fresh_back e04 hx) (e04.trans fun b o hb => k5 b o (en _ _ hb) (ne_of_none hb hx)) cl
          · refine (bad n ?_).back (e04.trans en)
            show (match pieces t with | none => some 1 | some (x, y, z) => dueP (.str x) (.str y) (.str z)) = _
            rw [pc]
            exact hn
        · refine ⟨by rw [← Array.length_toList]; exact hlt, (e.trans e2).trans e3, fun j hj c' hc' => ?_, _, _, rfl⟩
          by_cases ej : j = i
          · subst ej
            rw [hc] at hc'
            cases hc'
            exact hb
          · exact no j (by omega) c' hc'
      · obtain ⟨hi, e, no, o2, o3, rfl⟩ := q
        refine ⟨by show 1 ≤ 1000; decide, raise_told ((bad 1 ?_).back e)⟩
        show (match pieces t with | none => some 1 | some (x, y, z) => dueP (.str x) (.str y) (.str z)) = _
        have : pieces t = none := by
          unfold pieces firstS
          have : t.cps.toList.findIdx? isSign = none := by
            rw [List.findIdx?_eq_none_iff]
            intro c hc
            obtain ⟨j, hj, rfl⟩ := List.mem_iff_getElem.mp hc
            exact no j (by rw [← Array.length_toList]; exact hj) _ (List.getElem?_eq_getElem hj)
          rw [this]
          rfl
        rw [this]
    · refine q_when (b := true) (et_not (a := false) (et_B (ev_isi (ea_cons (ev_var rfl) (ea_cons ev_c ea_nil)) (.ty _) ty (kit_ty kt)))) (fun _ H1 e1 => ?_) fun z => nomatch z
      refine ⟨by show 1 ≤ 1000; decide, raise_told ((bad 1 ?_).back e1)⟩
      cases x with
      | str s => exact absurd rfl (no s)
      | _ => rfl
end
section
variable {P : Program} {w : World} {K : PySem.W.Frag} {mg : Str → Option Value} {base : Heap} {a : Ads}
theorem ok_Clause_read (T : Txt w K mg a) : FnOk P w K mg base (L2.CX P w) 7 a.f_Clause_read a.d_Clause_read ["cls", "text"] (spRead a) := KM.ofN (ok_Clause_readN T)
end
/-! ### str, == -/
def who0N (who : Str) : Str := if who = "ugo" then "a" else who
def clTxt (who sign what : Str) : Str := ⟨(who0N who).cps ++ sign.cps ++ what.cps⟩
theorem sizes : (∀ s ∈ allWho, s.cps.size ≤ 3 ∧ (who0N s).cps.size ≤ 3) ∧ (∀ s ∈ allSign, s.cps.size = 1) ∧ ∀ s ∈ allw, s.cps.size ≤ 4 := by decide +kernel
structure POk (who sign what : Str) : Prop where
  who : who ∈ allWho
  sign : sign ∈ allSign
  what : what ∈ allw
def spStr (a : Ads) : Sp := fun vs H Q _ => ∃ (p : Addr) (who sign what : Str), vs = [.ref p] ∧ ClauseAt a H p who sign what ∧ POk who sign what ∧ ∀ H', Ex H H' → Q (.str (clTxt who sign what)) H'
/-- what a clause may be compared with -/
def EqCase (K : PySem.W.Frag) (a : Ads) (H : Hp) (who sign what : Str) (y : V) (r : Bool) : Prop :=
  (∃ q who2 sign2 what2, y = .ref q ∧ ClauseAt a H q who2 sign2 what2 ∧ r = decide (who = who2 ∧ sign = sign2 ∧ what = what2)) ∨ (r = false ∧ ∃ t ∈ (["str", "tuple", "int", "NoneType"] : List String), TyE K H y t)
theorem EqCase.mono {K : PySem.W.Frag} {a : Ads} {H H' : Hp} {who sign what : Str} {y : V} {r : Bool} (h : EqCase K a H who sign what y r) (e : Ex H H') : EqCase K a H' who sign what y r := by
  rcases h with ⟨q, w2, s2, t2, e1, e2, e3⟩ | ⟨h1, t, ht, ty⟩
  · exact .inl ⟨q, w2, s2, t2, e1, e2.mono e, e3⟩
  · exact .inr ⟨h1, t, ht, fun H2 e2 => ty H2 (e.trans e2)⟩
def spEqC (K : PySem.W.Frag) (a : Ads) : Sp := fun vs H Q _ => ∃ (p : Addr) (who sign what : Str) (y : V) (r : Bool), vs = [.ref p, y] ∧ ClauseAt a H p who sign what ∧ EqCase K a H who sign what y r ∧ ∀ H', Ex H H' → Q (.bl r) H'
theorem cl_join (who sign what : Str) : Str.empty ++ (who0N who) ++ sign ++ what = clTxt who sign what := by
  have e : ∀ s : Str, Str.empty ++ s = s := fun s => by
    show (⟨#[] ++ s.cps⟩ : Str) = s
    rw [Array.empty_append]
  rw [e]
  rfl
section
variable {P : Program} {w : World} {K : PySem.W.Frag} {mg : Str → Option Value} {base : Heap} {a : Ads}
theorem tyx_clause (T : Txt w K mg a) {H : Hp} {p : Addr} {who sign what : Str} (m : ClauseAt a H p who sign what) : TyX K H (.ref p) (.ref a.f_Clause) := by
  obtain ⟨dx, t, h, _⟩ := m
  exact .base (.ins h T.c_Clause T.ia_Clause T.in_ T.it_ T.im_Clause)
theorem ok_Clause_str (T : Txt w K mg a) : FnOk P w K mg base CX0 1 a.f_ClauseD_strD a.d_ClauseD_strD ["self"] (spStr a) := by
  refine T.fn_ClauseD_strD.ok sc_ClauseD_strD (fun vs H Q E h => ?_) (fun cdv A outer s H vs Q E hr h => ?_)
  · obtain ⟨_, _, _, _, rfl, _⟩ := h
    rfl
  · obtain ⟨p, who, sign, what, rfl, ⟨dx, t, ho, _⟩, ok, k⟩ := h
    refine ⟨_, (pss_cons (ps_set (i := 1) sc_ClauseD_strD.nd rfl (Or.inl rfl) (pe_ifExp (pt_cmpR op_eq (pe_fld (pv 0) rfl) pe_str (nomark _)) pe_str (pe_fld (pv 0) rfl)))
    (pss_one (ps_ret (pe_joined (PJ.cons (pe_fmt (pv 1)) (PJ.cons (pe_fmt (pe_fld (pv 0) rfl)) (PJ.cons (pe_fmt (pe_fld (pv 0) rfl)) PJ.nil))))))), ?_⟩
    have l1 := (sizes.1 who ok.who).2
    have l2 := sizes.2.1 sign ok.sign
    have l3 := sizes.2.2 what ok.what
    refine q_asg (v := .str (who0N who)) (ev_if (b := decide (V.str who = V.str "ugo")) (et_test (ev_op (ev_fld (ev_var rfl) ho T.c_Clause T.n_who_Clause (fs_who _ _ _ t)) ev_c (rv_eq rfl))) (fun hb => ev_is ev_c (by unfold who0N; rw [if_pos (V.str.inj (of_decide_eq_true hb))])) (fun hb => ev_is (ev_fld (ev_var rfl) ho T.c_Clause T.n_who_Clause (fs_who _ _ _ t)) (by unfold who0N; rw [if_neg (fun z => of_decide_eq_false hb (congrArg V.str z))]))) fun H1 e1 => ?_
    exact s_ret (v := .str (clTxt who sign what)) (ev_is (ev_joined3 (ev_var rfl) (ev_fld (ev_var rfl) (e1 _ _ ho) T.c_Clause T.n_sign_Clause (fs_sign _ _ _ t)) (ev_fld (ev_var rfl) (e1 _ _ ho) T.c_Clause T.n_what_Clause (fs_what _ _ _ t)) (show (who0N who).cps.size + sign.cps.size + what.cps.size ≤ 100000 by omega)) (congrArg V.str (cl_join who sign what))) fun H2 e2 => k H2 (e1.trans e2)
theorem ok_Clause_eq (T : Txt w K mg a) : FnOk P w K mg base CX0 1 a.f_ClauseD_eqD a.d_ClauseD_eqD ["self", "other"] (spEqC K a) := by
  refine T.fn_ClauseD_eqD.ok sc_ClauseD_eqD (fun vs H Q E h => ?_) (fun cdv A outer s H vs Q E hr h => ?_)
  · obtain ⟨_, _, _, _, _, _, rfl, _⟩ := h
    rfl
  · obtain ⟨p, who, sign, what, y, r, rfl, ⟨dx, t, ho, _⟩, cs, k⟩ := h
    refine ⟨_, (pss_one (ps_ret (pe_and (pe_callB call_isi (by rfl) T.b_isinstance PyProof.Rows.boot_isinstance (pa_cons (pv 1) (pa_cons (pe_glob (v := .ref a.f_Clause) rfl T.mg_Clause rfl) pa_nil))) (pe_and (pe_cmpR op_eq (pe_fld (pv 0) rfl) (pe_fld (pv 1) rfl) (nomark _)) (pe_and (pe_cmpR op_eq (pe_fld (pv 0) rfl) (pe_fld (pv 1) rfl) (nomark _)) (pe_one (pe_cmpR op_eq (pe_fld (pv 0) rfl) (pe_fld (pv 1) rfl) (nomark _)))))))), ?_⟩
    rcases cs with ⟨q, who2, sign2, what2, rfl, m2, rfl⟩ | ⟨rfl, t2, ht2, ty⟩
    · obtain ⟨dy, u, hq, _⟩ := id m2
      refine s_ret (v := .bl (decide (who = who2 ∧ sign = sign2 ∧ what = what2))) (ev_is (ev_andV (a := true) (ev_isi (ea_cons (ev_var rfl) (ea_cons ev_c ea_nil)) (.own _) (fun H' e' => tyx_clause T (m2.mono e')) T.is_Clause) fun _ => ev_andV (a := decide (V.str who = V.str who2)) (ev_op (ev_fld (ev_var rfl) ho T.c_Clause T.n_who_Clause (fs_who _ _ _ t)) (ev_fld (ev_var rfl) hq T.c_Clause T.n_who_Clause (fs_who _ _ _ u)) (rv_eq rfl)) fun _ => ev_andV (a := decide (V.str sign = V.str sign2)) (ev_op (ev_fld (ev_var rfl) ho T.c_Clause T.n_sign_Clause (fs_sign _ _ _ t)) (ev_fld (ev_var rfl) hq T.c_Clause T.n_sign_Clause (fs_sign _ _ _ u)) (rv_eq rfl)) fun _ => ev_op (ev_fld (ev_var rfl) ho T.c_Clause T.n_what_Clause (fs_what _ _ _ t)) (ev_fld (ev_var rfl) hq T.c_Clause T.n_what_Clause (fs_what _ _ _ u)) (rv_eq rfl)) ?_) fun H1 e1 => k H1 e1
      congr 1
      rw [Bool.eq_iff_iff]
      simp
    · have no : PySem.W.kitOne K (.type t2) (.ref a.f_Clause) = some false := by
        simp only [List.mem_cons, List.not_mem_nil, or_false] at ht2
        rcases ht2 with rfl | rfl | rfl | rfl
        · exact T.nt_Clause_str
        · exact T.nt_Clause_tuple
        · exact T.nt_Clause_int
        · exact T.nt_Clause_NoneType
      exact s_ret (v := .bl false) (ev_is (ev_andV (a := false) (b := true) (ev_isi (ea_cons (ev_var rfl) (ea_cons ev_c ea_nil)) (.own _) ty no) fun z => nomatch z) rfl) fun H1 e1 => k H1 e1
end
end KL
set_option Elab.async false
set_option linter.all false
set_option maxRecDepth 100000
set_option maxHeartbeats 4000000
namespace KL
open PySem PySem.Spec PyProof.Rows L2 Evl KF
local macro_rules | `(tactic| walk_at "ev") => `(tactic| repeat' (first | exact ev_c | exact ev_var rfl | exact rv_I0 | refine' rv_I ?_ | refine' rv_eq ?_ | refine' rv_ne ?_ | refine' ev_op ?_ ?_ ?_ | exact ea_nil | refine' ea_cons ?_ ?_ | refine' et_test ?_ | refine' et_B ?_ | refine' et_not ?_ | refine' ev_notV ?_))

open PySem
/-! ### tables of clauses done in order -/
section
variable {K : PySem.W.Frag} {σ : L2.St} {H H' : Hp} {ta tb te tx tv : TE} {t u : TT} {x y z v : V} {r : R2} {D : Ends} {tz : TS}
theorem pi_tupE {X : Cx} {K : PySem.W.Frag} {tg l : Expr} {tl : TE} (hl : PE X l tl) (hK : X.K = K := by rfl) : PI X tg l (iTup K tl) := by
  subst hK
  exact pi_tup hl
def rTup (K : PySem.W.Frag) : List V → Hp → VK → Prop := fun xs H Q => ∃ p ys, xs = [.ref p] ∧ ((SqL K H p ys ∧ ∀ l, H l = none → Q (.ref l) (upd H l (.tup ys))) ∨ (SqT K H p ys ∧ Q (.ref p) H))
theorem call_tupE {X : Cx} {K : PySem.W.Frag} (hK : X.K = K := by rfl) : CallR X (.type "tuple") (rTup K) := by
  subst hK
  exact call_tuple_of
theorem ell_zip {a b : Addr} {xs ys : List V} {ta : TA} {i1 i2 n : Nat} {vs : List Nat} (rows : Nat → List V) (h : EvA ta σ H [.ref a, .ref b]) (hx : SqT K H a xs) (hy : SqT K H b ys) (l1 : xs.length = n) (l2 : ys.length = n) (hz : n ≤ 40000)
    (hw : ∀ x y, wipe (((wipe σ vs).set i1 (some x)).set i2 (some y)) vs = wipe σ vs)
    (he : ∀ (i : Nat) (x y : V) H1, Ex H H1 → xs[i]? = some x → ys[i]? = some y → EvU te (((wipe σ vs).set i1 (some x)).set i2 (some y)) H1 (rows i)) :
    EvLL (tLc (RZ.iZipA K ta) (gTup K 2 (gCons (gName i1) (gCons (gName i2) gNil))) tYes te vs) σ H n rows := fun H0 e Q q => h H0 e _ fun H1 e1 => ⟨a, b, xs, ys, rfl, .inr ⟨ex_t (e.trans e1) hx, ex_t (e.trans e1) hy, fun Dl hD =>
  ⟨fun i m H' => m = n - i ∧ i ≤ n ∧ (H1 Dl = none ∧ Ex H1 H' ∧ ∃ qs : List Addr, qs.length = i ∧ H' Dl = some (.lst (qs.map V.ref)) ∧ ∀ j q, qs[j]? = some q → H1 q = none ∧ H' q = some (.tup (rows j)) ∧ q ≠ Dl), ⟨n, by simp, Nat.zero_le _, hD, Ex.new hD, [], rfl, upd_same, fun j q hq => by simp at hq⟩, by
    rintro i m H' ⟨rfl, hi, p1, p2, qs, p3, p4, p5⟩
    have sx : SqT K H' a xs := ex_t ((e.trans e1).trans p2) hx
    have sy : SqT K H' b ys := ex_t ((e.trans e1).trans p2) hy
    by_cases hlt : i < n
    · refine .inr ⟨⟨xs, ys, xs[i], ys[i], sx, sy, by simp [l1, hlt], by simp [l2, hlt]⟩, (fun H' => H1 Dl = none ∧ Ex H1 H' ∧ ∃ qs : List Addr, qs.length = i + 1 ∧ H' Dl = some (.lst (qs.map V.ref)) ∧ ∀ j q, qs[j]? = some q → H1 q = none ∧ H' q = some (.tup (rows j)) ∧ q ≠ Dl), fun H2 p' => ⟨n - (i + 1), by omega, rfl, hlt, p'⟩, ?_⟩
      rintro w H2 ⟨T, x, y, rfl, hT, rfl, gx, gy⟩
      have e2 : Ex H' (upd H' T (.tup [x, y])) := Ex.new hT
      have e02 : Ex H1 (upd H' T (.tup [x, y])) := p2.trans e2
      refine ⟨T, _, rfl, st_of upd_same, rfl, _, _, rfl, _, _, rfl, rfl, hw _ _, yes_at (iteT ?_)⟩
      refine he i x y H1 (e.trans e1) (gx xs sx) (gy ys sy) _ e02 _ fun q H4 hq e4 h4 => ⟨qs.map V.ref, e4 _ _ (e2 _ _ p4), sz_lt (by rw [List.length_map]; omega), p1, Ex.mut (e02.trans e4) p1, qs ++ [q], by rw [List.length_append, p3] <;> rfl, by rw [upd_same, List.map_append] <;> rfl, fun j r hr => ?_⟩
      have qD : q ≠ Dl := fun z => by rw [z, e2 _ _ p4] at hq; cases hq
      by_cases hj : j < qs.length
      · rw [List.getElem?_append_left hj] at hr
        obtain ⟨r1, r2, r3⟩ := p5 j r hr
        exact ⟨r1, by rw [upd_ne r3]; exact e4 _ _ (e2 _ _ r2), r3⟩
      · have hj2 : j = qs.length := by
          have := (List.getElem?_eq_some_iff.mp hr).1
          rw [List.length_append] at this
          have e1 : ([q] : List Addr).length = 1 := rfl
          omega
        subst hj2
        rw [List.getElem?_append_right (Nat.le_refl _), Nat.sub_self] at hr
        obtain rfl : q = r := Option.some.inj hr
        exact ⟨fresh_back e02 hq, by rw [upd_ne qD, p3]; exact h4, qD⟩
    · have e2 : i = n := by omega
      subst e2
      exact .inl ⟨⟨xs, ys, sx, sy, .inl (Nat.le_of_eq l1)⟩, q Dl qs H' (fresh_back e1 p1) (e1.trans p2) p3 p4 fun j r hr => ⟨fresh_back e1 (p5 j r hr).1, (p5 j r hr).2.1⟩⟩⟩⟩⟩
end
def TabS (K : PySem.W.Frag) (H : Hp) (t : Addr) : Prop := ∃ (p0 p1 p2 p3 : Addr) (f : Nat → Nat → Nat), SqT K H t [.ref p0, .ref p1, .ref p2, .ref p3] ∧ (∀ k i, i < 8 → f k i < 8) ∧ SqT K H p0 (rowV (f 0)) ∧ SqT K H p1 (rowV (f 1)) ∧ SqT K H p2 (rowV (f 2)) ∧ SqT K H p3 (rowV (f 3))
theorem TabS.mono {K : PySem.W.Frag} {H H' : Hp} {t : Addr} (h : TabS K H t) (e : Ex H H') : TabS K H' t := let ⟨a, b, c, d, f, h0, l, h1, h2, h3, h4⟩ := h; ⟨a, b, c, d, f, ex_t e h0, l, ex_t e h1, ex_t e h2, ex_t e h3, ex_t e h4⟩
theorem TabL.s {K : PySem.W.Frag} {H : Hp} {t : Addr} (h : TabL H t) : TabS K H t := by
  obtain ⟨qs, hl, h, hr⟩ := h
  match qs, hl with
  | [p0, p1, p2, p3], _ =>
    obtain ⟨f0, l0, r0⟩ := hr 0 p0 rfl
    obtain ⟨f1, l1, r1⟩ := hr 1 p1 rfl
    obtain ⟨f2, l2, r2⟩ := hr 2 p2 rfl
    obtain ⟨f3, l3, r3⟩ := hr 3 p3 rfl
    refine ⟨p0, p1, p2, p3, fun k => if k = 0 then f0 else if k = 1 then f1 else if k = 2 then f2 else f3, st_of h, fun k i hi => ?_, st_of r0, st_of r1, st_of r2, st_of r3⟩
    show (if k = 0 then f0 else if k = 1 then f1 else if k = 2 then f2 else f3) i < 8
    split
    · exact l0 i hi
    · split
      · exact l1 i hi
      · split
        · exact l2 i hi
        · exact l3 i hi
theorem row_at {f : Nat → Nat} {i : Nat} {x : V} (h : (rowV f)[i]? = some x) : i < 8 ∧ x = .int (f i : Nat) := by
  unfold rowV at h
  rw [List.getElem?_map] at h
  obtain ⟨j, hj, rfl⟩ := Option.map_eq_some_iff.mp h
  have h8 := (List.getElem?_eq_some_iff.mp hj).1
  rw [List.length_range] at h8
  rw [List.getElem?_range h8] at hj
  cases hj
  exact ⟨h8, rfl⟩
abbrev scFirst : Scope := { kind := .function, names := [(".0", .local), ("first", .local), ("later", .cell), ("tuple", .globalImplicit)], isGenerator := false, isCoroutine := false }
theorem row_get {f : Nat → Nat} {i : Nat} (h : i < 8) : (rowV f)[i]? = some (.int (f i : Nat)) := by
  unfold rowV
  rw [List.getElem?_map, List.getElem?_range h]
  rfl
def spTurn (K : PySem.W.Frag) : Sp := fun vs H Q _ => ∃ (p q : Addr), vs = [.ref p, .ref q] ∧ TabS K H p ∧ TabS K H q ∧ ∀ t H', Ex H H' → TabL H' t → Q (.ref t) H'
section
variable {P : Program} {w : World} {K : PySem.W.Frag} {mg : Str → Option Value} {base : Heap} {a : Ads}
theorem ok_in_turn (T : Txt w K mg a) : FnOk P w K mg base CX0 1 a.f_in_turn a.d_in_turn ["one", "other"] (spTurn K) := by
  refine T.fn_in_turn.ok sc_in_turn (fun vs H Q E h => ?_) (fun cdv A outer s H vs Q E hr h => ?_)
  · obtain ⟨_, _, rfl, _⟩ := h
    rfl
  · obtain ⟨p, q, rfl, ⟨p0, p1, p2, p3, f, hp, low, f0, f1, f2, f3⟩, ⟨q0, q1, q2, q3, gg, hq, low2, g0, g1, g2, g3⟩, k⟩ := h
    refine ⟨_, (pss_one (ps_ret (pe_callTy (call_tupE (K := K)) (by rfl) T.b_tuple (by decide +kernel) (pa_cons (pe_lc (own := [("first", 2), ("later", 3)]) (g := gTup K 2 (gCons (gName 2) (gCons (gName 3) gNil))) rfl sc_in_turn.nd (RZ.pi_zipA (by rfl) T.b_zip (pa_cons (pv 0) (pa_cons (pv 1) pa_nil))) (blkOk_by (own := [("first", 2), ("later", 3)]) (N := n_in_turn) (sc := defScope s_in_turn) (by decide +kernel)) (fun _ _ _ _ _ => (pg_tup rfl (pgs_cons (pg_name (i := 2) sc_in_turn.nd rfl (Or.inl rfl)) (pgs_cons (pg_name (i := 3) sc_in_turn.nd rfl (Or.inr rfl)) pgs_nil)))) (fun _ _ _ _ _ => pts_nil) (fun _ _ _ _ _ => (pe_callTy (call_tupE (K := K)) (by rfl) T.b_tuple (by decide +kernel) (pa_cons (pe_lc (own := [("pattern", 4)]) (g := gName 4) rfl sc_in_turn.nd (pi_tupE (K := K) (pv 2)) (blkOk_by (own := [("pattern", 4)]) (N := n_in_turn) (sc := scFirst) (by decide +kernel)) (fun _ _ _ _ _ => (pg_name (i := 4) sc_in_turn.nd rfl (Or.inl rfl))) (fun _ _ _ _ _ => pts_nil) (fun _ _ _ _ _ => (pe_ix (r := rIxT K) ix_tup (pv 3) (pv 4) (fun _ _ => rfl)))) pa_nil)))) pa_nil)))), ?_⟩
    have at4 : ∀ (i : Nat) (x y : V) (H1 : Hp), Ex H H1 → ([.ref p0, .ref p1, .ref p2, .ref p3] : List V)[i]? = some x → ([.ref q0, .ref q1, .ref q2, .ref q3] : List V)[i]? = some y → ∃ c d : Addr, x = .ref c ∧ y = .ref d ∧ SqT K H1 c (rowV (f i)) ∧ SqT K H1 d (rowV (gg i)) := fun i x y H1 e hx hy => by
      match i, hx, hy with
      | 0, hx, hy => exact ⟨p0, q0, (Option.some.inj hx).symm, (Option.some.inj hy).symm, ex_t e f0, ex_t e g0⟩
      | 1, hx, hy => exact ⟨p1, q1, (Option.some.inj hx).symm, (Option.some.inj hy).symm, ex_t e f1, ex_t e g1⟩
      | 2, hx, hy => exact ⟨p2, q2, (Option.some.inj hx).symm, (Option.some.inj hy).symm, ex_t e f2, ex_t e g2⟩
      | 3, hx, hy => exact ⟨p3, q3, (Option.some.inj hx).symm, (Option.some.inj hy).symm, ex_t e f3, ex_t e g3⟩
      | n + 4, hx, _ => simp at hx
    refine euu_tuple (K := K) (n := 4) (rows := fun k => rowV fun i => gg k (f k i)) (ell_zip (K := K) (n := 4) (fun k => rowV fun i => gg k (f k i)) (ea_cons (ev_var rfl) (ea_cons (ev_var rfl) ea_nil)) hp hq rfl rfl (by decide) (fun _ _ => rfl) (fun i x y H1 e1 hx hy => ?_)) H (Ex.refl H) _ fun t qs H1 _ e1 hl h1 hrows => k t H1 e1 ⟨qs, hl, h1, fun j q hj => ⟨_, fun i hi => low2 j _ (low j i hi), (hrows j q hj).2⟩⟩
    obtain ⟨c, d, rfl, rfl, hc, hd⟩ := at4 i x y H1 e1 hx hy
    refine eu_tuple (K := K) (el_is (el_lcT (K := K) (xs := rowV (f i)) (σ' := fun x => [some (.ref p), some (.ref q), some (.ref c), some (.ref d), some x]) (fun _ => true) (fun j => V.int (gg i (f i j) : Nat)) (ev_var rfl) hc (by unfold rowV; simp) (fun j x H2 Q' e2 hj q => q) (fun _ => rfl) (fun _ _ _ _ _ => et_yes) (fun j x H2 e2 hj _ => ?_)) ?_)
    · obtain ⟨h8, rfl⟩ := row_at hj
      exact ev_op (ev_var rfl) (ev_var rfl) (rv_ixT (ex_t e2 hd) (atI_nat (row_get (low i j h8))))
    · rw [given_all, show (rowV (f i)).length = 8 by unfold rowV; simp]
      rfl
def spTabs (a : Ads) : Sp := fun vs H Q _ => ∃ (t : Addr) (ps : List Addr), vs = [.ref t] ∧ H t = some (.tup (ps.map V.ref)) ∧ (∀ p ∈ ps, ∃ who sign what, ClauseAt a H p who sign what) ∧ ∀ p H', Ex H H' → Q (.ref p) H'
theorem ok_tables_of (T : Txt w K mg a) : FnOk P w K mg base CX0 3 a.f_tables_of a.d_tables_of ["clauses"] (spTabs a) := by
  have G_in_turn : FnOk P w K mg base CX0 1 _ _ _ _ := ok_in_turn T
  refine T.fn_tables_of.ok sc_tables_of (fun vs H Q E h => ?_) (fun cdv A outer s H vs Q E hr h => ?_)
  · obtain ⟨_, _, rfl, _⟩ := h
    rfl
  · obtain ⟨t, ps, rfl, ht, hc, k⟩ := h
    have hrc : Room 1 _ := hr.mono (by decide)
    refine ⟨_, (pss_cons (ps_set (i := 1) sc_tables_of.nd rfl (Or.inl rfl) (pe_tup (pa_cons (pe_glob (v := .ref a.k_PATTERNS) rfl T.mg_PATTERNS rfl) (pa_cons (pe_glob (v := .ref a.k_PATTERNS) rfl T.mg_PATTERNS rfl) (pa_cons (pe_glob (v := .ref a.k_PATTERNS) rfl T.mg_PATTERNS rfl) (pa_cons (pe_glob (v := .ref a.k_PATTERNS) rfl T.mg_PATTERNS rfl) pa_nil))))))
    (pss_cons (ps_for PassesOwn.never rfl (pi_tup (pv 0)) (pg_name (i := 2) sc_tables_of.nd rfl (Or.inl rfl)) (pss_one (ps_set (i := 1) sc_tables_of.nd rfl (Or.inl rfl) (pe_call G_in_turn hrc rfl T.mg_in_turn T.fn_in_turn.kp (bd_in_turn T) .nil pass0 (pa_cons (pv 1) (pa_cons (pe_fld (pv 2) rfl) pa_nil))))))
    (pss_one (ps_ret (pv 1))))), ?_⟩
    refine q_asgU (eu_tup (ea_cons ev_c (ea_cons ev_c (ea_cons ev_c (ea_cons ev_c ea_nil)))) (by show 4 ≤ 100000; decide)) fun t0 H1 _ e1 h1 => ?_
    have row0 : ∀ H', SqT K H' a.k_PATTERNS (rowV fun i => i) := fun H' => T.t_PATTERNS H'
    refine q_forT (ev_var rfl) (st_of (e1 _ _ ht)) (fun i σ' H' => ∃ tb o2, σ' = [some (.ref t), some (.ref tb), o2] ∧ TabS K H' tb ∧ Ex H H') (fun H2 e2 => ⟨_, _, rfl, ⟨_, _, _, _, fun _ i => i, st_of (e2 _ _ h1), fun _ i hi => hi, row0 _, row0 _, row0 _, row0 _⟩, e1.trans e2⟩) (fun i σ' H' _ q => ?_) (fun i x σ' H' hx q => ?_) (fun σ' H' q => ?_)
    · obtain ⟨_, _, _, _, e⟩ := q
      exact st_of (e _ _ ht)
    · obtain ⟨tb, o2, rfl, tab, e⟩ := q
      rw [List.getElem?_map] at hx
      obtain ⟨p, hp, rfl⟩ := Option.map_eq_some_iff.mp hx
      obtain ⟨who, sign, what, cl⟩ := hc p (List.mem_of_getElem? hp)
      obtain ⟨dx, ct, ho, ctab⟩ := cl.mono e
      have hA : EvA (tCons (tVar 1) (tCons (tFld K (tVar 2) "_tables") tNil)) [some (.ref t), some (.ref tb), some (.ref p)] H' [.ref tb, .ref ct] := ea_cons (ev_var rfl) (ea_cons (ev_fld (ev_var rfl) ho T.c_Clause T.n_tables_Clause (fs_tables _ _ _ ct)) ea_nil)
      show tCall (spTurn K) [] E0 (tCons (tVar 1) (tCons (tFld K (tVar 2) "_tables") tNil)) [some (.ref t), some (.ref tb), some (.ref p)] H' _
      exact hA H' (Ex.refl _) _ fun H2 e2 => ⟨tb, ct, rfl, tab.mono e2, (ctab.kt (KeepT.of e2)).s, fun t' H3 e3 tab' => ⟨t', _, rfl, tab'.s, (e.trans e2).trans e3⟩⟩
    · obtain ⟨tb, o2, rfl, tab, e⟩ := q
      exact s_ret (v := .ref tb) (ev_var rfl) fun H2 e2 => k tb H2 (e.trans e2)
end
end KL
set_option Elab.async false
set_option linter.all false
set_option maxRecDepth 100000
set_option maxHeartbeats 4000000
namespace KL
open PySem PySem.Spec PyProof.Rows L2 Evl KF
local macro_rules | `(tactic| walk_at "ev") => `(tactic| repeat' (first | exact ev_c | exact ev_var rfl | exact rv_I0 | refine' rv_I ?_ | refine' rv_eq ?_ | refine' rv_ne ?_ | refine' ev_op ?_ ?_ ?_ | exact ea_nil | refine' ea_cons ?_ ?_ | refine' et_test ?_ | refine' et_B ?_ | refine' et_not ?_ | refine' ev_notV ?_))

open PySem
/-! ### TooMany is raised -/
def spManyI (a : Ads) : Sp := fun vs H Q _ => ∃ (e : Addr) (v : V), vs = [.ref e, v] ∧ H e = some (exo e a.x_TooMany none) ∧ ∀ dx, H dx = none → dx ≠ e → Q .non (upd (upd H dx (exd dx [(("most" : Str), v)])) e (exo e a.x_TooMany (some dx)))
def ToldM (a : Ads) (E : XK) (H : Hp) : Prop := ∀ d H', H d = none → Ex H H' → H' d = some (.xd [(("most" : Str), .int 8)]) → E (.ref a.x_TooMany) (some d) H'
theorem ToldM.back {a : Ads} {E : XK} {H H1 : Hp} (h : ToldM a E H) (e : Ex H H1) : ToldM a E H1 := fun d H' hd e' h' => h d H' (fresh_back e hd) (e.trans e') h'
theorem raise_many {a : Ads} {E : XK} {H : Hp} (h : ToldM a E H) : ∀ e, H e = none → spManyI a (.ref e :: ([.int 8] ++ [])) (upd H e (exo e a.x_TooMany none)) (fun v H2 => v = .non ∧ ∃ (d : Addr) (fs : List (Str × V)), H2 e = some (exo e a.x_TooMany (some d)) ∧ H2 d = some (exd d fs) ∧ H d = none ∧ E (.ref a.x_TooMany) (some d) (upd (del H2 e) d (.xd fs))) (fun _ _ _ => False) := fun e he =>
  ⟨e, .int 8, rfl, upd_same, fun dx hdx ne => by
    have hd : H dx = none := by rw [upd_ne ne] at hdx; exact hdx
    refine ⟨rfl, dx, [(("most" : Str), .int 8)], upd_same, by rw [upd_ne ne, upd_same], hd, h dx _ hd (fun b o hb => ?_) upd_same⟩
    have be := ne_of_none hb he
    have bd := ne_of_none hb hd
    rw [upd_ne bd, del_ne be, upd_ne be, upd_ne bd, upd_ne be]
    exact hb⟩
/-! ### what a change is made of -/
abbrev Cl := Str × Str × Str
/-- a value that is this clause, or none at all -/
def Fit (a : Ads) (H : Hp) (x : V) : Option Cl → Prop
  | some c => ∃ p, x = .ref p ∧ ClauseAt a H p c.1 c.2.1 c.2.2
  | none => AnyE H x
theorem Fit.mono {a : Ads} {H H' : Hp} {x : V} {c : Option Cl} (h : Fit a H x c) (e : Ex H H') : Fit a H' x c := by
  match c, h with
  | some c, ⟨p, ex, cl⟩ => exact ⟨p, ex, cl.mono e⟩
  | none, h => exact AnyE.mono h e
def Fits (a : Ads) (H : Hp) (xs : List V) (cs : List (Option Cl)) : Prop := xs.length = cs.length ∧ ∀ (i : Nat) (x : V) (c : Option Cl), xs[i]? = some x → cs[i]? = some c → Fit a H x c
theorem Fits.mono {a : Ads} {H H' : Hp} {xs : List V} {cs : List (Option Cl)} (h : Fits a H xs cs) (e : Ex H H') : Fits a H' xs cs := ⟨h.1, fun i x c h1 h2 => (h.2 i x c h1 h2).mono e⟩
/-- what a change is refused with: none for TooMany -/
def dueC (cs : List (Option Cl)) : Option (Option Nat) := if 8 < cs.length then some none else if cs = [] then some (some 0) else (cs.findIdx? (· == none)).map some
/-- a change of the clauses cs stands at p -/
def chFs (ct tt : Addr) : List (Str × V) := putF "_tables" (.ref tt) (putF "_clauses" (.ref ct) [])
def ClsAt (a : Ads) (H : Hp) (ps : List Addr) (cs : List Cl) : Prop := ps.length = cs.length ∧ ∀ (i : Nat) (p : Addr) (c : Cl), ps[i]? = some p → cs[i]? = some c → ClauseAt a H p c.1 c.2.1 c.2.2
def ChX (a : Ads) (H : Hp) (p : Addr) (ps : List Addr) (cs : List Cl) : Prop := ∃ (dx ct tt : Addr), H p = some (.ins a.f_Change dx (chFs ct tt)) ∧ H ct = some (.tup (ps.map V.ref)) ∧ ClsAt a H ps cs
def ChangeAt (a : Ads) (H : Hp) (p : Addr) (cs : List Cl) : Prop := ∃ ps, ChX a H p ps cs
theorem ClsAt.kt {a : Ads} {H H' : Hp} {ps : List Addr} {cs : List Cl} (m : ClsAt a H ps cs) (e : KeepT H H') : ClsAt a H' ps cs := ⟨m.1, fun i p c h1 h2 => (m.2 i p c h1 h2).kt e⟩
theorem chFs_at (ct tt : Addr) : (chFs ct tt).lookup ("_clauses" : Str) = some (.ref ct) := by
  unfold chFs
  rw [lookup_putF, if_neg (by decide +kernel), lookup_putF, if_pos rfl]
theorem chFs_cons (ct tt : Addr) : ∃ f fs, chFs ct tt = f :: fs := by
  cases h : chFs ct tt with
  | cons f fs => exact ⟨f, fs, rfl⟩
  | nil =>
    have := chFs_at ct tt
    rw [h] at this
    cases this
theorem ChX.kt {a : Ads} {H H' : Hp} {p : Addr} {ps : List Addr} {cs : List Cl} (m : ChX a H p ps cs) (e : KeepT H H') : ChX a H' p ps cs := by
  obtain ⟨dx, ct, tt, h1, h2, h3⟩ := m
  obtain ⟨f, fs, ef⟩ := chFs_cons ct tt
  refine ⟨dx, ct, tt, ?_, e.1 _ _ h2, h3.kt e⟩
  rw [ef] at h1 ⊢
  exact e.2 _ _ _ _ _ h1
theorem ChangeAt.kt {a : Ads} {H H' : Hp} {p : Addr} {cs : List Cl} (m : ChangeAt a H p cs) (e : KeepT H H') : ChangeAt a H' p cs := let ⟨ps, h⟩ := m; ⟨ps, h.kt e⟩
def MakingC (a : Ads) (b : Addr) (xs : List V) (cs : List (Option Cl)) (H : Hp) (Q : VK) (E : XK) : Prop := (∀ (ds : List Cl) (ps : List Addr) H', cs = ds.map some → xs = ps.map V.ref → dueC cs = none → ExB b H H' → ChX a H' b ps ds → Q .non H') ∧ (∀ n, dueC cs = some (some n) → Told a E H n) ∧ (dueC cs = some none → ToldM a E H)
/-- the clauses are told by a tuple -/
def spChangeA (a : Ads) : Sp := fun vs H Q E => ∃ (p dx ct : Addr) (xs : List V) (cs : List (Option Cl)), vs = [.ref p, .ref ct] ∧ H ct = some (.tup xs) ∧ xs.length ≤ 100 ∧ Fits a H xs cs ∧ H p = some (.ins a.f_Change dx []) ∧ MakingC a p xs cs H Q E
theorem findIdx_none {cs : List (Option Cl)} (h : cs.findIdx? (· == none) = none) : ∃ ds : List Cl, cs = ds.map some := by
  rw [List.findIdx?_eq_none_iff] at h
  induction cs with
  | nil => exact ⟨[], rfl⟩
  | cons c cs ih =>
    obtain ⟨ds, rfl⟩ := ih fun x hx => h x (List.mem_cons_of_mem _ hx)
    cases c with
    | none => exact absurd (h none (List.mem_cons_self ..)) (by decide)
    | some c => exact ⟨c :: ds, rfl⟩
theorem fits_all {a : Ads} {H : Hp} {xs : List V} {ds : List Cl} (h : Fits a H xs (ds.map some)) : ∃ ps : List Addr, xs = ps.map V.ref ∧ ClsAt a H ps ds := by
  obtain ⟨hl, hf⟩ := h
  rw [List.length_map] at hl
  induction ds generalizing xs with
  | nil =>
    obtain rfl := List.eq_nil_of_length_eq_zero hl
    exact ⟨[], rfl, rfl, fun i p c z => nomatch z⟩
  | cons d ds ih =>
    cases xs with
    | nil => cases hl
    | cons x xs =>
      obtain ⟨p, rfl, cl⟩ := hf 0 x (some d) rfl rfl
      obtain ⟨ps, rfl, h1, h2⟩ := ih (xs := xs) (by simpa using hl) fun i y c hy hc => hf (i + 1) y c hy hc
      refine ⟨p :: ps, rfl, by rw [List.length_cons, List.length_cons, h1], fun i q c hq hc => ?_⟩
      cases i with
      | zero =>
        cases hq
        cases hc
        exact cl
      | succ i => exact h2 i q c hq hc
theorem keep_new {H H' : Hp} {p C dx : Addr} (e : ExB p H H') (hp : H p = some (.ins C dx [])) : KeepT H H' :=
  ⟨fun b xs h => e _ _ h (ne_of h hp fun z => nomatch z), fun b C2 dx2 f fs h => e _ _ h (ne_of h hp fun z => nomatch z)⟩
theorem scCh : FnScope n_ChangeD_initD ((["self"] : List Str) ++ [("clauses" : Str)]) (defScope s_ChangeD_initD) := ⟨rfl, rfl, rfl, by decide +kernel, rfl, by decide +kernel, by decide +kernel⟩
section
variable {K : PySem.W.Frag} {σ : L2.St} {H H' : Hp} {ta tb te tx tv : TE} {t : TT} {x y z v : V} {r : R2} {D : Ends} {tz tu : TS}
theorem ev_raw0 {σ : L2.St} {H : Hp} {te : TE} {x : V} {Q : VK} (h : Ev te σ H x) (k : ∀ H1, Ex H H1 → Q x H1) : te σ H Q := h H (Ex.refl H) Q k
theorem ev_lenT {p : Addr} {xs : List V} (h : Ev ta σ H (.ref p)) (seq : H p = some (.tup xs)) : Ev (tCB (rLenS K) (tCons ta tNil)) σ H (.int (xs.length : Nat)) := fun H1 e Q q => h H1 e _ fun H2 e2 => ⟨p, xs, rfl, .inr (st_of ((e.trans e2) _ _ seq)), q H2 e2⟩
theorem q_forEnT {b : Addr} {ys : List V} {i1 i2 : Nat} (h : Ev te σ H (.ref b)) (seq : SqT K H b ys) (Pv : Nat → L2.St → Hp → Prop) (h0 : ∀ H1, Ex H H1 → Pv 0 σ H1) (up : ∀ i σ' H', Pv i σ' H' → Ex H H')
    (hs : ∀ (i : Nat) (y : V) σ' H', ys[i]? = some y → Pv i σ' H' → ∀ H2, Ex H' H2 → tu { D with nx := Pv (i + 1), ct := Pv (i + 1), bk := tz D } ((σ'.set i1 (some (.int (i : Nat)))).set i2 (some y)) H2) (hd : ∀ σ' H', Pv ys.length σ' H' → tz D σ' H') :
    tSeq (tFor (iEnT K te) (gTup K 2 (gCons (gName i1) (gCons (gName i2) gNil))) tu) tz D σ H :=
  h H (Ex.refl H) _ fun H1 e1 => ⟨b, ys, rfl, ex_t e1 seq, fun i m σ' H' => m = ys.length - i ∧ i ≤ ys.length ∧ Pv i σ' H', ⟨ys.length, by simp, Nat.zero_le _, h0 H1 e1⟩, by
    rintro i m σ' H' ⟨rfl, hi, p⟩
    have now : SqT K H' b ys := ex_t (up i σ' H' p) seq
    by_cases hlt : i < ys.length
    · refine .inr ⟨⟨ys, ys[i], now, by simp [hlt]⟩, Pv (i + 1), fun σ2 H2 p' => ⟨ys.length - (i + 1), by omega, rfl, hlt, p'⟩, ?_⟩
      rintro x H2 ⟨T, y, rfl, hT, rfl, hy⟩
      exact ⟨T, _, rfl, st_of upd_same, rfl, _, _, rfl, _, _, rfl, rfl, hs i y σ' H' (hy ys now) p _ (Ex.new hT)⟩
    · have e : i = ys.length := by omega
      subst e
      exact .inl ⟨⟨ys, now, rfl⟩, hd σ' H' p⟩⟩
end
/-- no clause, by its type -/
theorem AnyE.kind {H : Hp} {x : V} (h : AnyE H x) (K : PySem.W.Frag) : ∃ t : String, t ∈ (["str", "NoneType", "bool", "int", "list", "tuple", "dict"] : List String) ∧ TyE K H x t := by
  rcases h with ⟨s, rfl, _⟩ | (rfl | ⟨b, rfl⟩ | ⟨i, rfl⟩) | ⟨l, rfl, b⟩
  · exact ⟨"str", by simp, fun _ _ => .base (.str _)⟩
  · exact ⟨"NoneType", by simp, fun _ _ => .base .non⟩
  · exact ⟨"bool", by simp, fun _ _ => .base (.bl _)⟩
  · exact ⟨"int", by simp, fun _ _ => .base (.int _)⟩
  · rcases b with ⟨xs, h⟩ | ⟨xs, h⟩ | ⟨xs, h⟩
    · exact ⟨"list", by simp, fun _ e => .base (.lst (e _ _ h))⟩
    · exact ⟨"tuple", by simp, fun _ e => .base (.tup (e _ _ h))⟩
    · exact ⟨"dict", by simp, fun _ e => .base (.dK (e _ _ h))⟩
section
variable {P : Program} {w : World} {K : PySem.W.Frag} {mg : Str → Option Value} {base : Heap} {a : Ads}
theorem nt_clause (T : Txt w K mg a) {t : String} (h : t ∈ (["str", "NoneType", "bool", "int", "list", "tuple", "dict"] : List String)) : PySem.W.kitOne K (.type t) (.ref a.f_Clause) = some false := by
  simp only [List.mem_cons, List.not_mem_nil, or_false] at h
  rcases h with rfl | rfl | rfl | rfl | rfl | rfl | rfl
  · exact T.nt_Clause_str
  · exact T.nt_Clause_NoneType
  · exact T.nt_Clause_bool
  · exact T.nt_Clause_int
  · exact T.nt_Clause_list
  · exact T.nt_Clause_tuple
  · exact T.nt_Clause_dict
theorem ok_TooMany_init (T : Txt w K mg a) : FnOk P w K mg base CX0 1 a.f_TooManyD_initD a.d_TooManyD_initD ["self", "most"] (spManyI a) := by
  refine T.fn_TooManyD_initD.ok sc_TooManyD_initD (fun vs H Q E h => ?_) (fun cdv A outer s H vs Q E hr h => ?_)
  · obtain ⟨_, _, rfl, _⟩ := h
    rfl
  · obtain ⟨e, v, rfl, he, k⟩ := h
    refine ⟨_, (pss_one (ps_ost (pv 0) (pv 1))), ?_⟩
    exact ⟨v, rfl, .ref e, rfl, e, a.x_TooMany, rfl, T.ox_TooMany, T.np_TooMany, .inl ⟨he, fun dx hdx ne => k dx hdx ne⟩⟩
theorem ok_Change_init (T : Txt w K mg a) : FnR P w K mg base (L2.CX P w) 5 a.f_ChangeD_initD (fun vs H Q E => ∃ v rest, vs = v :: rest ∧ rest.length ≤ 100 ∧ ∀ p, H p = none → spChangeA a [v, .ref p] (upd H p (.tup rest)) Q E) := by
  have G_tables_of : FnOk P w K mg base CX0 4 _ _ _ _ := (ok_tables_of T).mono (by decide)
  have G_BadClause_init : FnOk P w K mg base CX0 3 _ _ _ _ := (ok_BadClause_init T).mono (by decide)
  have G_TooMany_init : FnOk P w K mg base CX0 3 _ _ _ _ := (ok_TooMany_init T).mono (by decide)
  obtain ⟨oc, od, kV, doc, pm, an, cdv, ct0, osl, e0, lk, hcd⟩ := T.fn_ChangeD_initD.ex
  rw [e0] at lk
  have F : FnR P w K mg base (L2.CX P w) 5 a.f_ChangeD_initD _ := StX.fn_star (ps := ["self"]) (pv := "clauses") (k := 4) (sp := spChangeA a) lk hcd scCh StX.cxUp (StX.bind_star1 (B := fun l => bindArgs _ ⟨l, []⟩) (fun _ => rfl) (fun _ _ _ => rfl)) fun A outer s H vs Q E hr h => ?_
  · intro A outer s H us vs Q E hr e0 r ⟨v, rest, ev, hl, k⟩
    exact F A outer s H us vs Q E hr e0 r ⟨[v], rest, ev, rfl, sz_of (by omega), k⟩
  obtain ⟨p, dx, ct, xs, cs, rfl, hct, hz, fits, hp, good, bad, many⟩ := h
  have hrc : Room 4 _ := hr
  have hrm2 : Room (3 + 1) _ := hr
  obtain ⟨tm, hm⟩ := T.k_Change_MOST
  refine ⟨_, (show PSs (cxOf (L2.CX P w) P w K mg base n_ChangeD_initD "Change.__init__" (defScope s_ChangeD_initD) a.f_ChangeD_initD cdv A outer s H E) (defBody s_ChangeD_initD) _ from (pss_cons (ps_if (pt_cmpR op_gt (pe_callB call_len_seq (by rfl) T.b_len PySem.boot_len (pa_cons (pv 1) pa_nil)) (ClX.pe_cval (pe_glob (v := .ref a.f_Change) rfl T.mg_Change rfl)) (nomark _)) (pss_one (ps_raise rfl (takes_of rfl rfl rfl rfl) (pmk_oex T.ox_TooMany T.ic_TooMany T.it_TooMany G_TooMany_init hrm2 (bd_TooManyD_initD T) .nil pass0 rfl T.mg_TooMany (pa_cons (ClX.pe_cval (pe_glob (v := .ref a.f_Change) rfl T.mg_Change rfl)) pa_nil)))) pss_nil)
    (pss_cons (ps_if (pt_cmpR op_eq (pe_callB call_len_seq (by rfl) T.b_len PySem.boot_len (pa_cons (pv 1) pa_nil)) pe_int (nomark _)) (pss_one (ps_raise rfl (takes_of rfl rfl rfl rfl) (pmk_oex T.ox_BadClause T.ic_BadClause T.it_BadClause G_BadClause_init hrm2 (bd_BadClauseD_initD T) .nil pass0 rfl T.mg_BadClause (pa_cons pe_int pa_nil)))) pss_nil)
    (pss_cons (ps_for (passes_of rfl) rfl (pi_enT (by rfl) T.b_enumerate (pv 1)) (pg_tup rfl (pgs_cons (pg_name (i := 2) scCh.nd rfl (Or.inl rfl)) (pgs_cons (pg_name (i := 3) scCh.nd rfl (Or.inl rfl)) pgs_nil))) (pss_one (ps_if (pt_not (pt_val (pe_callB call_isi (by rfl) T.b_isinstance PyProof.Rows.boot_isinstance (pa_cons (pv 3) (pa_cons (pe_glob (v := .ref a.f_Clause) rfl T.mg_Clause rfl) pa_nil))))) (pss_one (ps_raise rfl (takes_of rfl rfl rfl rfl) (pmk_oex T.ox_BadClause T.ic_BadClause T.it_BadClause G_BadClause_init hrm2 (bd_BadClauseD_initD T) .nil pass0 rfl T.mg_BadClause (pa_cons (pv 2) pa_nil)))) pss_nil)))
    (pss_cons (ps_fld (pv 0) (pv 1) rfl)
    (pss_one (ps_fld (pv 0) (pe_call G_tables_of hrc rfl T.mg_tables_of T.fn_tables_of.kp (bd_tables_of T) .nil pass0 (pa_cons (pv 1) pa_nil)) rfl))))))), ?_⟩
  have seq : SqT K H ct xs := st_of hct
  refine q_when (b := decide (8 < cs.length)) (et_is (et_test (ev_op (ev_lenT (K := K) (ev_var rfl) hct) (ev_cval ev_c T.r_Change hm) rv_I0)) (by rw [fits.1]; exact decide_eq_decide.mpr (by omega))) (fun hb H1 e1 => ?_) fun hb H1 e1 => ?_
  · exact ev_raw0 (ev_cval ev_c T.r_Change hm) fun H2 e2 => ⟨by show 1 ≤ 1000; decide, raise_many ((many (by unfold dueC; rw [if_pos (of_decide_eq_true hb)])).back (e1.trans e2))⟩
  have h8 := of_decide_eq_false hb
  refine q_when (b := decide (cs = [])) (et_is (et_test (ev_op (ev_lenT (K := K) (ev_var rfl) (e1 _ _ hct)) ev_c (rv_eq rfl))) ?_) (fun hb H2 e2 => ?_) fun hb H2 e2 => ?_
  · rw [fits.1]
    refine decide_eq_decide.mpr ⟨fun z => ?_, fun z => by rw [z]; rfl⟩
    injection z with z
    exact List.eq_nil_of_length_eq_zero (by omega)
  · exact ⟨by show 1 ≤ 1000; decide, raise_told ((bad 0 (by unfold dueC; rw [if_neg h8, if_pos (of_decide_eq_true hb)])).back (e1.trans e2))⟩
  have h0 := of_decide_eq_false hb
  have due : dueC cs = (cs.findIdx? (· == none)).map some := by unfold dueC; rw [if_neg h8, if_neg h0]
  have e02 : Ex H H2 := e1.trans e2
  refine q_forEnT (K := K) (ev_var rfl) (ex_t e02 seq) (fun i σ' H' => Ex H2 H' ∧ (∀ j, j < i → ∀ c, cs[j]? = some c → c ≠ none) ∧ ∃ o2 o3, σ' = [some (.ref p), some (.ref ct), o2, o3]) (fun H3 e3 => ⟨e3, (fun _ z => absurd z (Nat.not_lt_zero _)), _, _, rfl⟩) (fun i σ' H' q => q.1) (fun i y σ' H' hy q H3 e3 => ?_) (fun σ' H' q => ?_)
  · obtain ⟨e, no, o2, o3, rfl⟩ := q
    have hi : i < cs.length := by rw [← fits.1]; exact (List.getElem?_eq_some_iff.mp hy).1
    have hc : cs[i]? = some cs[i] := by simp [hi]
    have ft := (fits.2 i y cs[i] hy hc).mono ((e02.trans e).trans e3)
    cases hcs : cs[i] with
    | some c =>
      rw [hcs] at ft
      obtain ⟨q, rfl, cl⟩ := ft
      refine s_when (b := false) (et_not (a := true) (et_B (ev_isi (ea_cons (ev_var rfl) (ea_cons ev_c ea_nil)) (.own _) (fun H' e' => tyx_clause T (cl.mono e')) T.is_Clause))) (fun z => nomatch z) fun _ H4 e4 => ⟨(e.trans e3).trans e4, fun j hj c' hc' => ?_, _, _, rfl⟩
      by_cases ej : j = i
      · subst ej
        rw [hc, hcs] at hc'
        cases hc'
        exact fun z => nomatch z
      · exact no j (by omega) c' hc'
    | none =>
      rw [hcs] at ft
      obtain ⟨t, ht, ty⟩ := AnyE.kind ft K
      refine s_when (b := true) (et_not (a := false) (et_B (ev_isi (ea_cons (ev_var rfl) (ea_cons ev_c ea_nil)) (.own _) ty (nt_clause T ht)))) (fun _ H4 e4 => ?_) fun z => nomatch z
      refine ⟨_, rfl, by show 1 ≤ 1000; decide, raise_told ((bad i ?_).back (((e02.trans e).trans e3).trans e4))⟩
      rw [due]
      have : cs.findIdx? (· == none) = some i := by
        rw [List.findIdx?_eq_some_iff_getElem]
        refine ⟨hi, by rw [hcs]; rfl, fun j hj => ?_⟩
        have := no j hj _ (List.getElem?_eq_getElem (Nat.lt_trans hj hi))
        cases h : cs[j]'(Nat.lt_trans hj hi) with
        | none => exact absurd h this
        | some c => exact fun z => nomatch z
      rw [this]
      rfl
  · obtain ⟨e, no, o2, o3, rfl⟩ := q
    have nf : cs.findIdx? (· == none) = none := by
      rw [List.findIdx?_eq_none_iff]
      intro c hc
      obtain ⟨j, hj, rfl⟩ := List.mem_iff_getElem.mp hc
      have := no j (by rw [fits.1]; exact hj) _ (List.getElem?_eq_getElem hj)
      cases h : cs[j] with
      | none => exact absurd h this
      | some c => rfl
    obtain ⟨ds, rfl⟩ := findIdx_none nf
    have e03 : Ex H H' := e02.trans e
    obtain ⟨ps, rfl, cls⟩ := fits_all (fits.mono e03)
    have hp3 := e03 _ _ hp
    have hct3 := e03 _ _ hct
    refine q_fld (y := .ref ct) (ev_var rfl) (ev_var rfl) hp3 T.c_Change T.n_clauses_Change (by show 0 < 1000; decide) fun H4 b4 hp4 => ?_
    have k4 := keep_new b4 hp3
    refine ⟨.ref ct, rfl, ct, ps, rfl, k4.1 _ _ hct3, fun q hq => ?_, fun tt H5 e5 => ⟨_, rfl, p, a.f_Change, dx, _, rfl, e5 _ _ hp4, T.c_Change, T.n_tables_Change, by exact Nat.lt_of_le_of_lt (length_putF _ _ _) (by decide), ?_⟩⟩
    · obtain ⟨j, hj, rfl⟩ := List.mem_iff_getElem.mp hq
      have hjd : j < ds.length := by rw [← cls.1]; exact hj
      exact ⟨_, _, _, (cls.2 j ps[j] ds[j] (by simp [hj]) (by simp [hjd])).kt k4⟩
    · have b5 : ExB p H5 (upd H5 p (.ins a.f_Change dx (putF "_tables" (.ref tt) (putF "_clauses" (.ref ct) [])))) := fun b o hb ne => by rw [upd_ne ne]; exact hb
      have b36 := b4.trans ((ExB.of e5).trans b5)
      have k6 := keep_new b36 hp3
      exact good ds ps _ rfl rfl (by rw [due, nf]; rfl) ((ExB.of e03).trans b36) ⟨dx, ct, tt, upd_same, k6.1 _ _ hct3, cls.kt k6⟩
end
end KL
set_option Elab.async false
set_option linter.all false
set_option maxRecDepth 100000
set_option maxHeartbeats 4000000
namespace KL
open PySem PySem.Spec PyProof.Rows L2 Evl KF
local macro_rules | `(tactic| walk_at "ev") => `(tactic| repeat' (first | exact ev_c | exact ev_var rfl | exact rv_I0 | refine' rv_I ?_ | refine' rv_eq ?_ | refine' rv_ne ?_ | refine' ev_op ?_ ?_ ?_ | exact ea_nil | refine' ea_cons ?_ ?_ | refine' et_test ?_ | refine' et_B ?_ | refine' et_not ?_ | refine' ev_notV ?_))

open PySem
section
variable {X : Cx} {CX : CXT} {k i : Nat} {f C : Addr} {sp : Sp} {E : XK} {x : Str} {e : Expr} {es : List Expr} {te : TE} {t : TA} {p q pos : Pos}
theorem pe_makeVS (M : Mk X.K C f) (F : FnR X.prog X.w X.K X.mg X.base CX k f sp) (room : Room (k + 1) X.A) (hx : Passes CX X E) (hN : X.N[i]? = some x) (hv : Vis X.env.scope x) (he : PE X e te) (hd : (x == ("__debug__" : Str)) = false := by decide)
    (hcd : (x == ("__classdict__" : Str)) = false := by decide) (star : starEach [.Starred e q] X.env = [(true, eval e X.env)] := by rfl) :
    PE X (.Call (.Name x p) [.Starred e q] [] pos) (tMakeV i C sp E fun σ H Q => te σ H fun y H1 => ∃ b xs, y = V.ref b ∧ (SqT X.K H1 b xs ∨ SqL X.K H1 b xs) ∧ Q xs H1) where
  run := fun pins s σ H Q I ⟨here, go⟩ => by
    refine wpAny_Call_Name_kw (thn ((pe_var (pos := p) (i := i) hN hv hd hcd).run pins s σ H (fun v H1 => v = .ref C ∧ H1 = H) I ⟨.ref C, here, rfl, rfl⟩) fun u s1 ⟨v, H1, I1, r1, ev, eH⟩ => ?_)
    subst ev eH
    obtain rfl : u = Value.ref C := r1
    refine PySem.W.callWith_S (h₀ := X.base) I.ok.mod.kin M.kp (thn (he.run pins s1 σ _ _ I1 go) fun v s2 ⟨y, H2, I2, ry, b, xs, ey, sq, want⟩ => ?_) star
    subst ey
    obtain rfl : v = Value.ref b := ry
    exact StX.star_any I2 sq fun us s3 I3 rv => ⟨I3.kIn, StX.run_makeR M F room hx I3 rv want⟩
end
/-! ### Change.read of anything -/
/-- the clause of a text -/
def clOf (s : Str) : Option Cl := match pieces s with
  | none => none
  | some (x, y, z) => if dueP (.str x) (.str y) (.str z) = none then (whoOf (.str x)).map fun who => (who, y, z) else none
def partsC (s : Str) : List (Option Cl) := (Txt.split s ",").map clOf
def dueS : V → Option (Option Nat)
  | .str s => dueC (partsC s)
  | _ => some (some 0)
def ReadsC (a : Ads) (x : V) (H : Hp) (Q : VK) (E : XK) : Prop := (∀ (s : Str) (ds : List Cl) (p : Addr) H', x = .str s → partsC s = ds.map some → dueC (partsC s) = none → H p = none → Ex H H' → ChangeAt a H' p ds → Q (.ref p) H') ∧ (∀ n, dueS x = some (some n) → Told a E H n) ∧ (dueS x = some none → ToldM a E H)
def spCReadA (a : Ads) : Sp := fun vs H Q E => ∃ (x : V), vs = [.ref a.f_Change, x] ∧ AnyE H x ∧ ReadsC a x H Q E
theorem clOf_none {s : Str} (h : clOf s = none) : ∃ n, dueT (.str s) = some n := by
  unfold clOf at h
  show ∃ n, (match pieces s with | none => some 1 | some (x, y, z) => dueP (.str x) (.str y) (.str z)) = some n
  cases hp : pieces s with
  | none => exact ⟨1, rfl⟩
  | some q =>
    obtain ⟨x, y, z⟩ := q
    rw [hp] at h
    cases hd : dueP (.str x) (.str y) (.str z) with
    | some n => exact ⟨n, hd⟩
    | none =>
      obtain ⟨who, _, _, hw, _⟩ := due_some hd
      simp only [hd, hw] at h
      cases h
theorem clOf_some {s : Str} {c : Cl} (h : clOf s = some c) : ∃ x, pieces s = some (x, c.2.1, c.2.2) ∧ dueP (.str x) (.str c.2.1) (.str c.2.2) = none ∧ whoOf (.str x) = some c.1 := by
  unfold clOf at h
  cases hp : pieces s with
  | none => rw [hp] at h; cases h
  | some q =>
    obtain ⟨x, y, z⟩ := q
    rw [hp] at h
    cases hd : dueP (.str x) (.str y) (.str z) with
    | some n => simp only [hd] at h; cases h
    | none =>
      obtain ⟨who, _, _, hw, _⟩ := due_some hd
      simp only [hd, hw] at h
      cases h
      exact ⟨x, rfl, hd, hw⟩
theorem dueT_clOf {s : Str} {n : Nat} (h : dueT (.str s) = some n) : clOf s = none := by
  have h : (match pieces s with | none => some 1 | some (x, y, z) => dueP (.str x) (.str y) (.str z)) = some n := h
  unfold clOf
  cases hp : pieces s with
  | none => rfl
  | some q =>
    obtain ⟨x, y, z⟩ := q
    rw [hp] at h
    have h : dueP (.str x) (.str y) (.str z) = some n := h
    simp only [h]
    rfl
section
variable {K : PySem.W.Frag} {σ : L2.St} {H H' : Hp} {ta tb te tx tv : TE} {t : TT} {x y z v : V} {r : R2} {D : Ends} {tz tu : TS}
theorem q_forEnL {b : Addr} {ys : List V} {i1 i2 : Nat} {ta : TA} (h : EvA ta σ H [.ref b]) (Pv : Nat → L2.St → Hp → Prop) (h0 : ∀ H1, Ex H H1 → Pv 0 σ H1) (now : ∀ i σ' H', Pv i σ' H' → H' b = some (.lst ys)) (seq : H b = some (.lst ys))
    (hs : ∀ (i : Nat) (y : V) σ' H', ys[i]? = some y → Pv i σ' H' → ∀ H2, Ex H' H2 → tu { D with nx := Pv (i + 1), ct := Pv (i + 1), bk := tz D } ((σ'.set i1 (some (.int (i : Nat)))).set i2 (some y)) H2) (hd : ∀ σ' H', Pv ys.length σ' H' → tz D σ' H') :
    tSeq (tFor (iEnum K ta) (gTup K 2 (gCons (gName i1) (gCons (gName i2) gNil))) tu) tz D σ H :=
  h H (Ex.refl H) _ fun H1 e1 => ⟨b, ys, rfl, sq_of (e1 _ _ seq), fun i m σ' H' => m = ys.length - i ∧ i ≤ ys.length ∧ Pv i σ' H', ⟨ys.length, by simp, Nat.zero_le _, h0 H1 e1⟩, by
    rintro i m σ' H' ⟨rfl, hi, p⟩
    have here : SqL K H' b ys := sq_of (now i σ' H' p)
    by_cases hlt : i < ys.length
    · refine .inr ⟨⟨ys, ys[i], here, by simp [hlt]⟩, Pv (i + 1), fun σ2 H2 p' => ⟨ys.length - (i + 1), by omega, rfl, hlt, p'⟩, ?_⟩
      rintro x H2 ⟨T, y, rfl, hT, rfl, hy⟩
      exact ⟨T, _, rfl, st_of upd_same, rfl, _, _, rfl, _, _, rfl, rfl, hs i y σ' H' (hy ys here) p _ (Ex.new hT)⟩
    · have e : i = ys.length := by omega
      subst e
      exact .inl ⟨⟨ys, here, Nat.le_refl _⟩, hd σ' H' p⟩⟩
end
theorem ClsAt.snoc {a : Ads} {H : Hp} {ps : List Addr} {cs : List Cl} {q : Addr} {c : Cl} (m : ClsAt a H ps cs) (h : ClauseAt a H q c.1 c.2.1 c.2.2) : ClsAt a H (ps ++ [q]) (cs ++ [c]) := by
  refine ⟨by rw [List.length_append, List.length_append, m.1] <;> rfl, fun i r d h1 h2 => ?_⟩
  by_cases hi : i < ps.length
  · rw [List.getElem?_append_left hi] at h1
    rw [List.getElem?_append_left (by rw [← m.1]; exact hi)] at h2
    exact m.2 i r d h1 h2
  · have hj : i = ps.length := by
      have := (List.getElem?_eq_some_iff.mp h1).1
      rw [List.length_append] at this
      have e1 : ([q] : List Addr).length = 1 := rfl
      omega
    subst hj
    rw [List.getElem?_append_right (Nat.le_refl _), Nat.sub_self] at h1
    rw [m.1, List.getElem?_append_right (Nat.le_refl _), Nat.sub_self] at h2
    obtain rfl : q = r := Option.some.inj h1
    obtain rfl : c = d := Option.some.inj h2
    exact h
theorem fits_cls {a : Ads} {H : Hp} {ps : List Addr} {ds : List Cl} (m : ClsAt a H ps ds) : Fits a H (ps.map V.ref) (ds.map some) := ⟨by rw [List.length_map, List.length_map, m.1], fun i x c hx hc => by
  rw [List.getElem?_map] at hx hc
  obtain ⟨p, hp, rfl⟩ := Option.map_eq_some_iff.mp hx
  obtain ⟨d, hd, rfl⟩ := Option.map_eq_some_iff.mp hc
  exact ⟨p, rfl, m.2 i p d hp hd⟩⟩
theorem keep_lst {H : Hp} {l : Addr} {xs ys : List V} (h : H l = some (.lst xs)) : KeepT H (upd H l (.lst ys)) :=
  ⟨fun b zs hb => by rw [upd_ne (ne_of hb h fun z => nomatch z)]; exact hb, fun b C dx f fs hb => by rw [upd_ne (ne_of hb h fun z => nomatch z)]; exact hb⟩
theorem spl_len (S : List Nat) : ∀ (l : List Nat) (k : Nat) (acc : List Nat), ∀ p ∈ TL.spl S k acc l, p.length ≤ acc.length + l.length := by
  intro l
  induction l with
  | nil =>
    intro k acc p hp
    rw [TL.spl_nil, List.mem_singleton] at hp
    subst hp
    exact Nat.le_add_right _ _
  | cons c r ih =>
    intro k acc p hp
    rw [List.length_cons]
    cases k with
    | zero =>
      by_cases h : TL.pre S (c :: r) = true
      · rw [TL.spl_hit h] at hp
        rcases List.mem_cons.mp hp with rfl | hp
        · omega
        · have := ih _ _ p hp
          rw [List.length_nil] at this
          omega
      · rw [TL.spl_miss (by simpa using h)] at hp
        have := ih _ _ p hp
        rw [List.length_append] at this
        have e : ([c] : List Nat).length = 1 := rfl
        omega
    | succ k =>
      have := ih k acc p hp
      omega
theorem comma : TL.tl "," = [44] := by decide +kernel
theorem split_tl (s : Str) : (Txt.split s ",").map TL.tl = TL.spl [44] 0 [] (TL.tl s) := by
  rw [TL.split_spl s "," (by rw [comma]; simp) (TL.kind_ok (by decide +kernel)), comma]
theorem split_size {s p : Str} (h : p ∈ Txt.split s ",") : p.cps.size ≤ s.cps.size := by
  have h2 : TL.tl p ∈ TL.spl [44] 0 [] (TL.tl s) := by rw [← split_tl]; exact List.mem_map.mpr ⟨p, h, rfl⟩
  have := spl_len _ _ _ _ _ h2
  simpa using this
section
variable {P : Program} {w : World} {K : PySem.W.Frag} {mg : Str → Option Value} {base : Heap} {a : Ads}
/-- .. called where an error is handled -/
theorem ok_BadClause_hot (T : Txt w K mg a) : L2H.FnH P w K mg base CX0 1 a.f_BadClauseD_initD a.d_BadClauseD_initD ["self", "at"] (spBadI a) := by
  refine KM.okH T.fn_BadClauseD_initD sc_BadClauseD_initD (fun vs H Q E h => ?_) (fun cdv A outer s H vs Q E p hot hr h => ?_)
  · obtain ⟨_, _, rfl, _⟩ := h
    rfl
  · obtain ⟨e, v, rfl, he, k⟩ := h
    refine ⟨_, (pss_one (ps_ost (pv 0) (pv 1))), ?_⟩
    exact ⟨v, rfl, .ref e, rfl, e, a.x_BadClause, rfl, T.ox_BadClause, T.np_BadClause, .inl ⟨he, fun dx hdx ne => k dx hdx ne⟩⟩
theorem ok_Change_read (T : Txt w K mg a) : FnOk P w K mg base (L2.CX P w) 8 a.f_Change_read a.d_Change_read ["cls", "text"] (spCReadA a) := by
  have G_Clause_read : FnOk P w K mg base (L2N.CX P w) 7 _ _ _ _ := ok_Clause_readN T
  have G_Change_init : FnR P w K mg base (L2.CX P w) 6 _ _ := (ok_Change_init T).mono (by decide)
  have G_BadClause_init : FnOk P w K mg base CX0 5 _ _ _ _ := (ok_BadClause_init T).mono (by decide)
  have G_TooMany_init : FnOk P w K mg base CX0 5 _ _ _ _ := (ok_TooMany_init T).mono (by decide)
  have HB : L2H.FnH P w K mg base CX0 1 _ _ _ _ := ok_BadClause_hot T
  refine T.fn_Change_read.okX sc_Change_read (fun vs H Q E h => ?_) (fun cdv A outer s0 H vs Q E hr h => ?_)
  · obtain ⟨_, rfl, _⟩ := h
    rfl
  · obtain ⟨x, rfl, ax, good, bad, many⟩ := h
    have hrc : Room 7 _ := hr
    have hrm : Room (6 + 1) _ := hr
    have hrm2 : Room (5 + 1) _ := hr.mono (by decide)
    have hrh : Room 2 _ := hr.mono (by decide)
    obtain ⟨tm, hm⟩ := T.k_Change_MOST
    refine ⟨_, (pss_cons (ps_if (pt_not (pt_val (pe_callB call_isi (by rfl) T.b_isinstance PyProof.Rows.boot_isinstance (pa_cons (pv 1) (pa_cons (pe_bltn (v := .ty "str") (by rfl) T.b_str (by decide +kernel) rfl) pa_nil))))) (pss_one (ps_raise rfl (takes_of rfl rfl rfl rfl) (pmk_oex T.ox_BadClause T.ic_BadClause T.it_BadClause G_BadClause_init hrm2 (bd_BadClauseD_initD T) .nil pass0 rfl T.mg_BadClause (pa_cons pe_int pa_nil)))) pss_nil)
    (pss_cons (ps_set (i := 2) sc_Change_read.nd rfl (Or.inl rfl) (pe_split (pv 1) pe_str))
    (pss_cons (ps_if (pt_cmpR op_gt (pe_callB call_len_seq (by rfl) T.b_len PySem.boot_len (pa_cons (pv 2) pa_nil)) (ClX.pe_cval (pe_glob (v := .ref a.f_Change) rfl T.mg_Change rfl)) (nomark _)) (pss_one (ps_raise rfl (takes_of rfl rfl rfl rfl) (pmk_oex T.ox_TooMany T.ic_TooMany T.it_TooMany G_TooMany_init hrm2 (bd_TooManyD_initD T) .nil pass0 rfl T.mg_TooMany (pa_cons (ClX.pe_cval (pe_glob (v := .ref a.f_Change) rfl T.mg_Change rfl)) pa_nil)))) pss_nil)
    (pss_cons (ps_set (i := 3) sc_Change_read.nd rfl (Or.inl rfl) (pe_lst pa_nil))
    (pss_cons (ps_for (passes_of rfl) rfl (pi_enum (by rfl) T.b_enumerate (pa_cons (pv 2) pa_nil)) (pg_tup rfl (pgs_cons (pg_name (i := 4) sc_Change_read.nd rfl (Or.inl rfl)) (pgs_cons (pg_name (i := 5) sc_Change_read.nd rfl (Or.inl rfl)) pgs_nil))) (pss_one (L2H.ps_try_onlyX (tb := fun W => tDrop (tBM K "list" rAppend (tVar 3) (tCons (KM.tCMethS a.f_Clause (fun vs H Q E => spRead a (vs ++ []) H Q E) (WE W) (tC (.ref a.f_Clause)) (tCons (tVar 5) tNil)) tNil))) (ts := fun _ _ _ => fun _ σ H => tMkO a.x_BadClause (spBadI a) [] (tCons (tVar 4) tNil) σ H fun cls d H2 => E cls d H2) (Wout := fun cls d _ H => E cls d H) (X := cxOf (L2.CX P w) P w K mg base n_Change_read "Change.read" (defScope s_Change_read) a.f_Change_read cdv A outer s0 H E) rfl rfl ⟨rfl, by decide, .inl T.mg_BadClause⟩ (fun hd => L2H.passesAt_of rfl hd) (takes_of rfl rfl rfl rfl) (fun W pn xe tkN tkP pown => (pss_one (ps_expr (pe_bm PySem.F.plainAttrs_list PySem.F.slot_list_append PySem.F.type_list_append mt_append (pv 3) (pa_cons (KM.pe_cmethS (E := WE W) (pe_glob (v := .ref a.f_Clause) rfl T.mg_Clause rfl) T.r_Clause T.m_Clause_read (G_Clause_read.raw (bd_Clause_read T) .nil) hrc (fun σ => L2N.passAt tkN σ) (pa_cons (pv 5) pa_nil)) pa_nil))))) (fun a0 oe cls d0 pn zn hv tkS hot => (pss_one (L2H.ps_raiseHN hot tkS (KM.pmk_oexH T.ox_BadClause T.ic_BadClause T.it_BadClause HB (L2H.RoomH.mk (k := 1 + 1) hrh.dp hrh.un) hot (bd_BadClauseD_initD T) .nil pass0 rfl T.mg_BadClause (pa_cons (pv 4) pa_nil))))))))
    (pss_one (ps_ret (pe_makeVS (i := 0) T.mk_Change G_Change_init hrm (passes_call (takes_of rfl rfl rfl rfl) fun _ _ _ _ h => h) rfl (Or.inl rfl) (pv 3))))))))), ?_⟩
    rcases ax.type (K := K) with ⟨s, rfl, sz⟩ | ⟨no, t, ty, kt⟩
    · refine q_when (b := false) (et_not (a := true) (et_B (ev_isi (ea_cons (ev_var rfl) (ea_cons ev_c ea_nil)) (.ty _) (fun _ _ => .base (.str _)) (kit_ty (by decide +kernel))))) (fun z => nomatch z) fun _ H1 e1 => ?_
      refine q_asgL (xs := (Txt.split s ",").map V.str) (fun H1' e1' Q' q' => ⟨_, rfl, ⟨s, rfl⟩, s, ",", rfl, rfl, by decide +kernel, by show s.length + 2 ≤ sizeLine; exact Nat.le_trans (Nat.add_le_add_right (show s.length ≤ 1000 from sz) 2) (by decide), fun pr hpr => q' pr _ hpr (Ex.new hpr) upd_same⟩) fun pr H2 hpr e12 hp2 => ?_
      have e2 := e1.trans e12
      have len : (partsC s).length = (Txt.split s ",").length := List.length_map ..
      refine q_when (b := decide (8 < (partsC s).length)) (et_is (et_test (ev_op (ev_lenS (K := K) (ev_var rfl) (sq_of hp2)) (ev_cval ev_c T.r_Change hm) rv_I0)) (by rw [List.length_map, len]; exact decide_eq_decide.mpr (by omega))) (fun hb H3 e3 => ?_) fun hb H3 e3 => ?_
      · exact ev_raw0 (ev_cval ev_c T.r_Change hm) fun H4 e4 => ⟨by show 1 ≤ 1000; decide, raise_many ((many (by show dueC (partsC s) = _; unfold dueC; rw [if_pos (of_decide_eq_true hb)])).back ((e2.trans e3).trans e4))⟩
      have h8 := of_decide_eq_false hb
      refine q_asgL (xs := []) (el_lst ea_nil (by decide)) fun l H4 hl e4 h4 => ?_
      have hpr4 : H4 pr = some (.lst ((Txt.split s ",").map V.str)) := e4 _ _ (e3 _ _ hp2)
      have hlH : H l = none := fresh_back (e2.trans e3) hl
      have lpr : pr ≠ l := fun z => by rw [← z, e3 _ _ hp2] at hl; cases hl
      refine q_forEnL (K := K) (ys := (Txt.split s ",").map V.str) (ea_cons (ev_var rfl) ea_nil) (fun i σ' H' => Ex H H' ∧ H' pr = some (.lst ((Txt.split s ",").map V.str)) ∧ (∃ o4 o5, σ' = [some (.ref a.f_Change), some (.str s), some (.ref pr), some (.ref l), o4, o5]) ∧ ∃ (ps : List Addr) (ds : List Cl), H' l = some (.lst (ps.map V.ref)) ∧ ClsAt a H' ps ds ∧ (partsC s).take i = ds.map some)
        (fun H5 e5 => ⟨((e2.trans e3).trans e4).trans e5, e5 _ _ hpr4, ⟨_, _, rfl⟩, [], [], e5 _ _ h4, ⟨rfl, fun i q c h1 h2 => nomatch h1⟩, rfl⟩) (fun i σ' H' q => q.2.1) hpr4 (fun i y σ' H' hy q H5 e5 => ?_) (fun σ' H' q => ?_)
      · obtain ⟨e, hpr5, ⟨o4, o5, rfl⟩, ps, ds, hl5, cls, tk⟩ := q
        rw [List.getElem?_map] at hy
        obtain ⟨pt, hpt, rfl⟩ := Option.map_eq_some_iff.mp hy
        have hi : i < (partsC s).length := by rw [len]; exact (List.getElem?_eq_some_iff.mp hpt).1
        have hcl : (partsC s)[i]? = some (clOf pt) := by
          unfold partsC
          rw [List.getElem?_map, hpt]
          rfl
        have hdl : ds.length = i := by
          have := congrArg List.length tk
          rw [List.length_take, List.length_map] at this
          omega
        have e05 : Ex H H5 := e.trans e5
        refine ⟨_, rfl, .inl ⟨rfl, _, sq_of (e5 _ _ hl5)⟩, rfl, _, rfl, .str pt, rfl, .inl ⟨pt, rfl, ?_⟩, fun s' w0 who sign what q H6 es pc dn hw hq e6 cl => ?_, fun n hn d H6 hd e6 h6 => ?_⟩
        · exact Nat.le_trans (split_size (List.mem_of_getElem? hpt)) sz
        · cases es
          have ec : clOf pt = some (who, sign, what) := by
            unfold clOf
            rw [pc]
            simp only [dn, hw]
            rfl
          have hl6 := e6 _ _ (e5 _ _ hl5)
          have hps : ps.length ≤ 8 := by rw [cls.1]; omega
          refine ⟨l, _, _, rfl, rfl, hl6, by rw [List.length_map]; exact Nat.lt_of_le_of_lt hps (by decide), ?_⟩
          have k7 : KeepT H6 (upd H6 l (.lst (ps.map V.ref ++ [.ref q]))) := keep_lst hl6
          refine ⟨Ex.mut (e05.trans e6) hlH, by rw [upd_ne lpr]; exact e6 _ _ (e5 _ _ hpr5), ⟨_, _, rfl⟩, ps ++ [q], ds ++ [(who, sign, what)], by rw [upd_same, List.map_append] <;> rfl, ?_, ?_⟩
          · exact (((cls.kt (KeepT.of (e5.trans e6))).snoc (c := (who, sign, what)) cl)).kt k7
          · rw [List.take_succ, hcl, ec, tk, List.map_append]
            rfl
        · refine ⟨true, T.em_BadClause_BadClause, fun _ a0 ha0 => ⟨_, rfl, by show 1 ≤ 1000; decide, raise_told ((bad i ?_).back (e05.trans e6))⟩, fun z => nomatch z⟩
          show dueC (partsC s) = some (some i)
          unfold dueC
          have ne : partsC s ≠ [] := fun z => by rw [z] at hi; exact absurd hi (Nat.not_lt_zero _)
          rw [if_neg h8, if_neg ne]
          have : (partsC s).findIdx? (· == none) = some i := by
            rw [List.findIdx?_eq_some_iff_getElem]
            refine ⟨hi, ?_, fun j hj => ?_⟩
            · have e1 : (partsC s)[i] = clOf pt := by
                have := List.getElem?_eq_getElem hi
                rw [hcl] at this
                exact (Option.some.inj this).symm
              rw [e1, dueT_clOf hn]
              rfl
            · have hjd : j < ds.length := by omega
              have h1 : ((partsC s).take i)[j]? = some (some ds[j]) := by rw [tk, List.getElem?_map, List.getElem?_eq_getElem hjd]; rfl
              rw [List.getElem?_take_of_lt hj, List.getElem?_eq_getElem (Nat.lt_trans hj hi)] at h1
              rw [Option.some.inj h1]
              exact fun z => nomatch z
          rw [this]
          rfl
      · obtain ⟨e, hpr5, ⟨o4, o5, rfl⟩, ps, ds, hl5, cls, tk⟩ := q
        rw [List.length_map, ← len, List.take_length] at tk
        have hds : ds.length ≤ 8 := by
          have := congrArg List.length tk
          rw [List.length_map] at this
          omega
        refine ⟨rfl, _, rfl, l, ps.map V.ref, rfl, .inr (sq_of hl5), fun x dx hx hdx hne => ⟨.ref x, ps.map V.ref, rfl, by rw [List.length_map, cls.1]; omega, fun ct hct => ?_⟩⟩
        have eN : Ex H' (upd (upd (upd H' dx (.own x)) x (.ins a.f_Change dx [])) ct (.tup (ps.map V.ref))) := fun b o hb => by
          have bx := ne_of_none hb hx
          have bd := ne_of_none hb hdx
          have bc : b ≠ ct := fun z => by
            rw [z] at bx bd hb
            rw [upd_ne bx, upd_ne bd, hb] at hct
            cases hct
          rw [upd_ne bc, upd_ne bx, upd_ne bd]
          exact hb
        have xct : x ≠ ct := fun z => by rw [← z, upd_same] at hct; cases hct
        refine ⟨x, dx, ct, ps.map V.ref, ds.map some, rfl, upd_same, by rw [List.length_map, cls.1]; omega, fits_cls (cls.kt (KeepT.of eN)), by rw [upd_ne xct, upd_same], fun ds' ps' H9 eq _ dn b9 ch => ⟨rfl, ?_⟩, fun n hn => (bad n (by show dueC (partsC s) = _; rw [tk]; exact hn)).back (e.trans eN), fun hn => (many (by show dueC (partsC s) = _; rw [tk]; exact hn)).back (e.trans eN)⟩
        exact good s ds' x H9 rfl (by rw [tk]; exact eq) (by rw [tk]; exact dn) (fresh_back e hx) (e.trans fun b o hb => b9 b o (eN b o hb) (ne_of_none hb hx)) ⟨ps', ch⟩
    · refine q_when (b := true) (et_not (a := false) (et_B (ev_isi (ea_cons (ev_var rfl) (ea_cons ev_c ea_nil)) (.ty _) ty (kit_ty kt)))) (fun _ H1 e1 => ?_) fun z => nomatch z
      refine ⟨by show 1 ≤ 1000; decide, raise_told ((bad 0 ?_).back e1)⟩
      cases x with
      | str s => exact absurd rfl (no s)
      | _ => rfl
end
end KL
set_option Elab.async false
set_option linter.all false
set_option maxRecDepth 100000
set_option maxHeartbeats 4000000
namespace KL
open PySem PySem.Spec PyProof.Rows L2 Evl KF
local macro_rules | `(tactic| walk_at "ev") => `(tactic| repeat' (first | exact ev_c | exact ev_var rfl | exact rv_I0 | refine' rv_I ?_ | refine' rv_eq ?_ | refine' rv_ne ?_ | refine' ev_op ?_ ?_ ?_ | exact ea_nil | refine' ea_cons ?_ ?_ | refine' et_test ?_ | refine' et_B ?_ | refine' et_not ?_ | refine' ev_notV ?_))

open PySem
/-! ### Change.__mul__, ==, str -/
section
variable {X : Cx} {CX : CXT} {k i : Nat} {f C : Addr} {sp : Sp} {E : XK} {x : Str} {e : Expr} {es : List Expr} {te : TE} {t : TA} {p p' q pos : Pos}
theorem pe_makeGS (M : Mk X.K C f) (F : FnR X.prog X.w X.K X.mg X.base CX k f sp) (room : Room (k + 1) X.A) (hg : Gl X x) (hm : X.mg x = some (.ref C)) (hx : Passes CX X E) (he : PE X e te) (hd : (x == ("__debug__" : Str)) = false := by decide)
    (star : starEach [.Starred e q] X.env = [(true, eval e X.env)] := by rfl) :
    PE X (.Call (.Name x p') [.Starred e q] [] pos) (StX.tMakeR C sp E fun σ H Q => te σ H fun y H1 => ∃ b xs, y = V.ref b ∧ (SqT X.K H1 b xs ∨ SqL X.K H1 b xs) ∧ Q xs H1) where
  run := fun pins s σ H Q I go => by
    refine wpAny_Call_Name_kw (ld_glob I hg hm ?_ hd)
    refine PySem.W.callWith_S (h₀ := X.base) I.ok.mod.kin M.kp (thn (he.run pins s σ _ _ I go) fun v s2 ⟨y, H2, I2, ry, b, xs, ey, sq, want⟩ => ?_) star
    subst ey
    obtain rfl : v = Value.ref b := ry
    exact StX.star_any I2 sq fun us s3 I3 rv => ⟨I3.kIn, StX.run_makeR M F room hx I3 rv want⟩
end
def SameC (a : Ads) (p q : Addr) (H : Hp) : Prop := ∃ who sign what : Str, ClauseAt a H p who sign what ∧ ClauseAt a H q who sign what
theorem sameC_mono {a : Ads} {p q : Addr} {H H' : Hp} (e : Ext H H') (h : SameC a p q H) : SameC a p q H' := let ⟨x, y, z, h1, h2⟩ := h; ⟨x, y, z, h1.mono e, h2.mono e⟩
/-- what a change may be compared with -/
inductive ChEq (K : PySem.W.Frag) (a : Ads) (H : Hp) (ps : List Addr) (cs : List Cl) : V → Bool → Prop where
  | same (q : Addr) (qs : List Addr) (h : ChX a H q qs cs) : ChEq K a H ps cs (.ref q) true
  | more (q : Addr) (qs more : List Addr) (ds : List Cl) (h : ChX a H q qs ds) (e : ps = qs ++ more) (ne : more ≠ []) : ChEq K a H ps cs (.ref q) false
  | odd (y : V) (t : String) (ht : t ∈ (["str", "tuple", "NoneType"] : List String)) (ty : TyE K H y t) : ChEq K a H ps cs y false
theorem ChEq.mono {K : PySem.W.Frag} {a : Ads} {H H' : Hp} {ps : List Addr} {cs : List Cl} {y : V} {r : Bool} (h : ChEq K a H ps cs y r) (e : Ex H H') : ChEq K a H' ps cs y r := by
  cases h with
  | same q qs h => exact .same q qs (h.kt (KeepT.of e))
  | more q qs more ds h e1 ne => exact .more q qs more ds (h.kt (KeepT.of e)) e1 ne
  | odd y t ht ty => exact .odd y t ht fun H2 e2 => ty H2 (e.trans e2)
def spChEq (K : PySem.W.Frag) (a : Ads) : Sp := fun vs H Q _ => ∃ (p : Addr) (ps : List Addr) (cs : List Cl) (y : V) (r : Bool), vs = [.ref p, y] ∧ ChX a H p ps cs ∧ ChEq K a H ps cs y r ∧ ∀ H', Ex H H' → Q (.bl r) H'
def spMulA (a : Ads) : Sp := fun vs H Q E => ∃ (p q : Addr) (ps qs : List Addr) (cs ds : List Cl), vs = [.ref p, .ref q] ∧ ChX a H p ps cs ∧ ChX a H q qs ds ∧ 0 < cs.length ∧ cs.length ≤ 8 ∧ ds.length ≤ 8 ∧
  (cs.length + ds.length ≤ 8 → ∀ x H', H x = none → Ex H H' → ChX a H' x (ps ++ qs) (cs ++ ds) → Q (.ref x) H') ∧ (8 < cs.length + ds.length → ToldM a E H)
def clText (c : Cl) : Str := clTxt c.1 c.2.1 c.2.2
def clOk (c : Cl) : Prop := POk c.1 c.2.1 c.2.2
def spChStr (a : Ads) : Sp := fun vs H Q _ => ∃ (p : Addr) (ps : List Addr) (cs : List Cl), vs = [.ref p] ∧ ChX a H p ps cs ∧ (∀ c ∈ cs, clOk c) ∧ cs.length ≤ 8 ∧ ∀ H', Ex H H' → Q (.str (Txt.join "," (cs.map clText))) H'
theorem clText_len {c : Cl} (h : clOk c) : (clText c).length ≤ 8 := by
  have l1 := (sizes.1 _ h.who).2
  have l2 := sizes.2.1 _ h.sign
  have l3 := sizes.2.2 _ h.what
  show ((who0N c.1).cps ++ c.2.1.cps ++ c.2.2.cps).size ≤ 8
  rw [Array.size_append, Array.size_append]
  omega
theorem texts_sum : ∀ cs : List Cl, (∀ c ∈ cs, clOk c) → ((cs.map clText).map (·.length)).sum ≤ cs.length * 8
  | [], _ => Nat.le_refl 0
  | c :: cs, h => by
    have := texts_sum cs fun d m => h d (List.mem_cons_of_mem _ m)
    have := clText_len (h c (List.mem_cons_self ..))
    simp only [List.map_cons, List.sum_cons, List.length_cons]
    omega
theorem ClsAt.app {a : Ads} {H : Hp} {ps qs : List Addr} {cs ds : List Cl} (m : ClsAt a H ps cs) (h : ClsAt a H qs ds) : ClsAt a H (ps ++ qs) (cs ++ ds) := by
  refine ⟨by rw [List.length_append, List.length_append, m.1, h.1], fun i r d h1 h2 => ?_⟩
  by_cases hi : i < ps.length
  · rw [List.getElem?_append_left hi] at h1
    rw [List.getElem?_append_left (by rw [← m.1]; exact hi)] at h2
    exact m.2 i r d h1 h2
  · have hi : ps.length ≤ i := Nat.le_of_not_lt hi
    rw [List.getElem?_append_right hi] at h1
    rw [m.1] at h1 hi
    rw [List.getElem?_append_right hi] at h2
    exact h.2 _ r d h1 h2
section
variable {P : Program} {w : World} {K : PySem.W.Frag} {mg : Str → Option Value} {base : Heap} {a : Ads}
theorem ok_Change_clauses (T : Txt w K mg a) : FnOk P w K mg base CX0 1 a.f_Change_clauses a.d_Change_clauses ["self"] (getSp a.f_Change "_clauses") := by
  obtain ⟨oc, od, kV, doc, pm, an, cdv, ct, osl, e, lk, hcd⟩ := T.fn_Change_clauses.ex
  rw [e]
  exact fn_getter (by rw [← e]; exact lk) hcd sc_Change_clauses rfl rfl T.c_Change T.n_clauses_Change
theorem tyx_change (T : Txt w K mg a) {H : Hp} {p : Addr} {ps : List Addr} {cs : List Cl} (m : ChX a H p ps cs) : TyX K H (.ref p) (.ref a.f_Change) := by
  obtain ⟨dx, ct, tt, h, _⟩ := m
  exact .base (.ins h T.c_Change T.ia_Change T.in_ T.it_ T.im_Change)
theorem ok_Clause_same (T : Txt w K mg a) : FnOk P w K mg base CX0 1 a.f_ClauseD_eqD a.d_ClauseD_eqD ["self", "other"] (spEq (SameC a)) := (ok_Clause_eq T).imp fun vs H Q E ⟨p, q, ev, ⟨who, sign, what, h1, h2⟩, k⟩ =>
  ⟨p, who, sign, what, .ref q, true, ev, h1, .inl ⟨q, who, sign, what, rfl, h2, (decide_eq_true ⟨rfl, rfl, rfl⟩).symm⟩, k⟩
theorem ok_Change_eq (T : Txt w K mg a) : FnOk P w K mg base CX0 4 a.f_ChangeD_eqD a.d_ChangeD_eqD ["self", "other"] (spChEq K a) := by
  have G : FnOk P w K mg base CX0 1 _ _ _ _ := ok_Clause_same T
  refine T.fn_ChangeD_eqD.ok sc_ChangeD_eqD (fun vs H Q E h => ?_) (fun cdv A outer s H vs Q E hr h => ?_)
  · obtain ⟨_, _, _, _, _, rfl, _⟩ := h
    rfl
  · obtain ⟨p, ps, cs, y, r, rfl, m1, ce, k⟩ := h
    refine ⟨_, (pss_one (ps_ret (pe_and (pe_callB call_isi (by rfl) T.b_isinstance PyProof.Rows.boot_isinstance (pa_cons (pv 1) (pa_cons (pe_glob (v := .ref a.f_Change) rfl T.mg_Change rfl) pa_nil))) (pe_one (pe_cmpR (KN.op_eqMore rfl (rcG_tup (n := 1) (mon_ins (R := SameC a) fun _ _ _ _ e h => sameC_mono e h) (eqG_ins (R := SameC a) G T.m_ClauseD_eqD.at_ T.m_ClauseD_eqD.fn (bd_ClauseD_eqD T) pass0)) (hr.mono (by decide))) (pe_fld (pv 0) rfl) (pe_fld (pv 1) rfl) (nomark _)))))), ?_⟩
    obtain ⟨dx, ct, tt, ho, seq, cls⟩ := m1
    cases ce with
    | same q qs m2 =>
      obtain ⟨dy, cu, tu, hq, seq2, cls2⟩ := id m2
      have prs : Prs (DIns a.f_Clause (SameC a)) (ps.map V.ref) (qs.map V.ref) H := ⟨by rw [List.length_map, List.length_map, cls.1, cls2.1], fun i x y hx hy => by
        rw [List.getElem?_map] at hx hy
        obtain ⟨b, hb, rfl⟩ := Option.map_eq_some_iff.mp hx
        obtain ⟨d, hd, rfl⟩ := Option.map_eq_some_iff.mp hy
        have hi : i < cs.length := by rw [← cls.1]; exact (List.getElem?_eq_some_iff.mp hb).1
        have c1 := cls.2 i b cs[i] hb (by simp [hi])
        have c2 := cls2.2 i d cs[i] hd (by simp [hi])
        obtain ⟨d1, t1, o1, _⟩ := id c1
        obtain ⟨d2, t2, o2, _⟩ := id c2
        exact ⟨b, d, d1, d2, _, _, rfl, rfl, o1, o2, _, _, _, c1, c2⟩⟩
      refine s_ret (v := .bl true) (ev_is (ev_andV (a := true) (b := true) (ev_isi (ea_cons (ev_var rfl) (ea_cons ev_c ea_nil)) (.own _) (fun H' e' => tyx_change T (m2.kt (KeepT.of e'))) T.is_Change) fun _ => ev_op (ev_fld (ev_var rfl) ho T.c_Change T.n_clauses_Change (chFs_at ct tt)) (ev_fld (ev_var rfl) hq T.c_Change T.n_clauses_Change (chFs_at cu tu)) fun H1 e Q q => .inl ?_) (by simp)) fun H1 e1 => k H1 e1
      exact ⟨mon_tup (mon_ins (R := SameC a) fun _ _ _ _ e h => sameC_mono e h) _ _ _ _ e ⟨ct, cu, _, _, rfl, rfl, st_of seq, st_of seq2, prs⟩, fun H2 e2 => q H2 e2⟩
    | more q qs more ds m2 epq ne =>
      obtain ⟨dy, cu, tu, hq, seq2, cls2⟩ := id m2
      exact s_ret (v := .bl false) (ev_is (ev_andV (a := true) (b := false) (ev_isi (ea_cons (ev_var rfl) (ea_cons ev_c ea_nil)) (.own _) (fun H' e' => tyx_change T (m2.kt (KeepT.of e'))) T.is_Change) fun _ => ev_op (ev_fld (ev_var rfl) ho T.c_Change T.n_clauses_Change (chFs_at ct tt)) (ev_fld (ev_var rfl) hq T.c_Change T.n_clauses_Change (chFs_at cu tu)) fun H1 e Q q => .inr ⟨ct, cu, qs, more.map V.ref, rfl, rfl, by rw [← List.map_append, ← epq]; exact st_of (e _ _ seq), st_of (e _ _ seq2), fun z => ne (List.map_eq_nil_iff.mp z), q H1 (Ex.refl H1)⟩) (by simp)) fun H1 e1 => k H1 e1
    | odd _ t ht ty =>
      have no : PySem.W.kitOne K (.type t) (.ref a.f_Change) = some false := by
        simp only [List.mem_cons, List.not_mem_nil, or_false] at ht
        rcases ht with rfl | rfl | rfl
        · exact T.nt_Change_str
        · exact T.nt_Change_tuple
        · exact T.nt_Change_NoneType
      exact s_ret (v := .bl false) (ev_is (ev_andV (a := false) (b := true) (ev_isi (ea_cons (ev_var rfl) (ea_cons ev_c ea_nil)) (.own _) ty no) fun z => nomatch z) rfl) fun H1 e1 => k H1 e1
theorem ok_Change_str (T : Txt w K mg a) : FnOk P w K mg base CX0 4 a.f_ChangeD_strD a.d_ChangeD_strD ["self"] (spChStr a) := by
  have G_ClauseD_strD : FnOk P w K mg base CX0 1 _ _ _ _ := ok_Clause_str T
  refine T.fn_ChangeD_strD.ok sc_ChangeD_strD (fun vs H Q E h => ?_) (fun cdv A outer s H vs Q E hr h => ?_)
  · obtain ⟨_, _, _, rfl, _⟩ := h
    rfl
  · obtain ⟨p, ps, cs, rfl, ⟨dx, ct, tt, ho, seq, cls⟩, ok, hl, k⟩ := h
    have hrs : Room (1 + 2) _ := hr.mono (by decide)
    refine ⟨_, (pss_one (ps_ret (pe_join pe_str (pe_lc (own := [("clause", 1)]) (g := gName 1) rfl sc_ChangeD_strD.nd (pi_tupE (K := K) (pe_fldE (K := K) (pv 0) rfl)) (blkOk_by (own := [("clause", 1)]) (N := n_ChangeD_strD) (sc := defScope s_ChangeD_strD) (by decide +kernel)) (fun _ _ _ _ _ => (pg_name (i := 1) sc_ChangeD_strD.nd rfl (Or.inl rfl))) (fun _ _ _ _ _ => pts_nil) (fun _ _ _ _ _ => (pe_callTy (KL.call_strOwn T.m_ClauseD_strD.at_ T.m_ClauseD_strD.fn (G_ClauseD_strD.raw (bd_ClauseD_strD T) .nil) hrs pass0) (by rfl) T.b_str (by decide +kernel) (pa_cons (pv 1) pa_nil))))))), ?_⟩
    refine s_ret (v := .str (Txt.join "," (cs.map clText))) (ev_join (ys := cs.map clText) ev_c (el_is (el_lcT (K := K) (xs := ps.map V.ref) (σ' := fun x => [some (.ref p), some x]) (fun _ => true) (fun i => V.str (((cs.map clText)[i]?).getD "")) (ev_fld (ev_var rfl) ho T.c_Change T.n_clauses_Change (chFs_at ct tt)) (st_of seq) (by rw [List.length_map, cls.1]; omega) (fun i x H1 Q' e1 hi q => q) (fun _ => rfl) (fun _ _ _ _ _ => et_yes) (fun i x H1 e1 hx _ => ?_)) ?_) ?_) fun H1 e1 => k H1 e1
    · rw [List.getElem?_map] at hx
      obtain ⟨q, hq, rfl⟩ := Option.map_eq_some_iff.mp hx
      have hi : i < cs.length := by rw [← cls.1]; exact (List.getElem?_eq_some_iff.mp hq).1
      have hci : cs[i]? = some cs[i] := by simp [hi]
      have cl := (cls.2 i q cs[i] hq hci).mono e1
      obtain ⟨dq, tq, hoq, _⟩ := id cl
      refine ev_is (ev_strOwn (s := clText cs[i]) (ev_var rfl) hoq fun H2 e2 Q2 q2 E2 => ⟨q, _, _, _, rfl, cl.mono e2, ok _ (List.mem_of_getElem? hci), q2⟩) ?_
      rw [List.getElem?_map, hci]
      rfl
    · rw [given_all, List.length_map, cls.1]
      apply List.ext_getElem
      · simp
      · intro i h1 h2
        have hi : i < cs.length := by simpa using h1
        simp [hi]
    · have := texts_sum cs ok
      have e1 : Str.length "," = 1 := by decide +kernel
      rw [e1, List.length_map]
      omega
theorem ok_mul (T : Txt w K mg a) : FnOk P w K mg base (L2.CX P w) 8 a.f_ChangeD_mulD a.d_ChangeD_mulD ["self", "other"] (spMulA a) := by
  have G_Change_init : FnR P w K mg base (L2.CX P w) 6 _ _ := (ok_Change_init T).mono (by decide)
  refine T.fn_ChangeD_mulD.okX sc_ChangeD_mulD (fun vs H Q E h => ?_) (fun cdv A outer s H vs Q E hr h => ?_)
  · obtain ⟨_, _, _, _, _, _, rfl, _⟩ := h
    rfl
  · obtain ⟨p, q, ps, qs, cs, ds, rfl, m1, m2, pc, lc, ld, good, many⟩ := h
    have hrm : Room (6 + 1) _ := hr
    refine ⟨_, (pss_cons (ps_if (pt_not (pt_val (pe_callB call_isi (by rfl) T.b_isinstance PyProof.Rows.boot_isinstance (pa_cons (pv 1) (pa_cons (pe_glob (v := .ref a.f_Change) rfl T.mg_Change rfl) pa_nil))))) (pss_one ps_never) pss_nil)
    (pss_cons (ps_set (i := 2) sc_ChangeD_mulD.nd rfl (Or.inl rfl) (pe_op op_catA (pe_fld (pv 0) rfl) (pe_fld (pv 1) rfl)))
    (pss_one (ps_ret (pe_makeGS T.mk_Change G_Change_init hrm rfl T.mg_Change (passes_call (takes_of rfl rfl rfl rfl) fun _ _ _ _ h => h) (pv 2)))))), ?_⟩
    obtain ⟨dx, ct, tt, hp, seq, cls⟩ := m1
    obtain ⟨dy, cu, tu, hq, seq2, cls2⟩ := id m2
    refine q_when (b := false) (et_not (a := true) (et_B (ev_isi (ea_cons (ev_var rfl) (ea_cons ev_c ea_nil)) (.own _) (fun H' e' => tyx_change T (m2.kt (KeepT.of e'))) T.is_Change))) (fun z => nomatch z) fun _ H1 e1 => ?_
    refine q_asgRaw (ew_cat (K := K) (xs := ps.map V.ref) (ys := qs.map V.ref) (ew_of (ev_fld (ev_var rfl) (e1 _ _ hp) T.c_Change T.n_clauses_Change (chFs_at ct tt)) (e1 _ _ seq)) (ew_of (ev_fld (ev_var rfl) (e1 _ _ hq) T.c_Change T.n_clauses_Change (chFs_at cu tu)) (e1 _ _ seq2)) (by rw [List.length_map, List.length_map, cls.1, cls2.1]; omega) H1 (Ex.refl _) _ fun bt H2 e2 h2 => ?_)
    have e := e1.trans e2
    have cls3 : ClsAt a H2 (ps ++ qs) (cs ++ ds) := (cls.kt (KeepT.of e)).app (cls2.kt (KeepT.of e))
    rw [← List.map_append] at h2
    have len : (cs ++ ds).length = cs.length + ds.length := List.length_append
    refine ⟨_, rfl, bt, (ps ++ qs).map V.ref, rfl, .inl (st_of h2), fun x dx' hx hdx hne => ⟨.ref x, (ps ++ qs).map V.ref, rfl, by rw [List.length_map, cls3.1]; omega, fun ct' hct => ?_⟩⟩
    have eN : Ex H2 (upd (upd (upd H2 dx' (.own x)) x (.ins a.f_Change dx' [])) ct' (.tup ((ps ++ qs).map V.ref))) := fun b o hb => by
      have bx := ne_of_none hb hx
      have bd := ne_of_none hb hdx
      have bc : b ≠ ct' := fun z => by
        rw [z] at bx bd hb
        rw [upd_ne bx, upd_ne bd, hb] at hct
        cases hct
      rw [upd_ne bc, upd_ne bx, upd_ne bd]
      exact hb
    have xct : x ≠ ct' := fun z => by rw [← z, upd_same] at hct; cases hct
    have nf : ((cs ++ ds).map some).findIdx? (· == none) = none := by
      rw [List.findIdx?_eq_none_iff]
      intro c hc
      obtain ⟨d, _, rfl⟩ := List.mem_map.mp hc
      rfl
    refine ⟨x, dx', ct', (ps ++ qs).map V.ref, (cs ++ ds).map some, rfl, upd_same, by rw [List.length_map, cls3.1]; omega, fits_cls (cls3.kt (KeepT.of eN)), by rw [upd_ne xct, upd_same], fun ds' ps' H9 eq exs dn b9 ch => ⟨rfl, ?_⟩, fun n hn => ?_, fun hn => ?_⟩
    · obtain rfl : ps ++ qs = ps' := (List.map_inj_right (fun _ _ z => by injection z)).mp exs
      obtain rfl : cs ++ ds = ds' := (List.map_inj_right (fun _ _ z => by injection z)).mp eq
      refine good ?_ x H9 (fresh_back e hx) (e.trans fun b o hb => b9 b o (eN b o hb) (ne_of_none hb hx)) ch
      unfold dueC at dn
      rw [List.length_map] at dn
      by_cases h8 : 8 < (cs ++ ds).length
      · rw [if_pos h8] at dn; cases dn
      · omega
    · unfold dueC at hn
      rw [List.length_map, nf] at hn
      split at hn
      · cases hn
      · rename_i ne
        rw [if_neg (fun z => by have := congrArg List.length z; rw [List.length_map, len, List.length_nil] at this; omega)] at hn
        cases hn
    · unfold dueC at hn
      rw [List.length_map, nf] at hn
      split at hn
      · rename_i h8
        exact (many (by omega)).back (e.trans eN)
      · split at hn <;> cases hn
end
end KL
set_option Elab.async false
set_option linter.all false
set_option maxRecDepth 100000
set_option maxHeartbeats 4000000
namespace KL
open PySem PySem.Spec PyProof.Rows L2 Evl KF
local macro_rules | `(tactic| walk_at "ev") => `(tactic| repeat' (first | exact ev_c | exact ev_var rfl | exact rv_I0 | refine' rv_I ?_ | refine' rv_eq ?_ | refine' rv_ne ?_ | refine' ev_op ?_ ?_ ?_ | exact ea_nil | refine' ea_cons ?_ ?_ | refine' et_test ?_ | refine' et_B ?_ | refine' et_not ?_ | refine' ev_notV ?_))

open PySem
/-! ### the pen: a list of a list of ints, how far it is, what rests -/
def PenAt (H : Hp) (p : Addr) (n : Nat) : Prop := ∃ (l : Addr) (ns : List Int) (at_ : Nat) (rest : Int), H p = some (.lst [.ref l, .int at_, .int rest]) ∧ H l = some (.lst (ns.map V.int)) ∧ l ≠ p ∧ at_ ≤ n ∧ 0 ≤ rest ∧ ns.length ≤ 63
theorem PenAt.keep {H H' : Hp} {p : Addr} {n : Nat} (h : PenAt H p n) (e : Ex H H') : PenAt H' p n := by
  obtain ⟨l, ns, at_, rest, h1, h2, h3, h4, h5, h6⟩ := h
  exact ⟨l, ns, at_, rest, e _ _ h1, e _ _ h2, h3, h4, h5, h6⟩
theorem PenAt.ex {H : Hp} {p : Addr} {n : Nat} (h : PenAt H p n) : ∃ o, H p = some o := by
  obtain ⟨l, ns, at_, rest, h1, _⟩ := h
  exact ⟨_, h1⟩
/-- all but p stay, and p's first item does -/
structure ExP (p : Addr) (H H' : Hp) : Prop where
  ex : ExB p H H'
  fix : ∀ l x y, H p = some (.lst [.ref l, x, y]) → ∃ x' y', H' p = some (.lst [.ref l, x', y'])
theorem ExP.trans {p : Addr} {H H1 H2 : Hp} (a : ExP p H H1) (b : ExP p H1 H2) : ExP p H H2 := ⟨a.ex.trans b.ex, fun l x y h => by
  obtain ⟨x1, y1, h1⟩ := a.fix l x y h
  exact b.fix l x1 y1 h1⟩
theorem ExP.of {p : Addr} {H H' : Hp} (e : Ex H H') : ExP p H H' := ⟨ExB.of e, fun l x y h => ⟨x, y, e _ _ h⟩⟩
def spPen (K : PySem.W.Frag) : Sp := fun vs H Q _ => ∃ (s : Addr) (ns : List Int), vs = [.ref s] ∧ SqL K H s (ns.map V.int) ∧ ns.length ≤ 63 ∧ ∀ p H', H p = none → Ex H H' → PenAt H' p 0 → Q (.ref p) H'
/-- a limit of draws -/
def LimM (m : Nat) : Prop := ((m : Nat) : Int).natAbs < 2 ^ 200
def spDraw : Sp := fun vs H Q _ => ∃ (p : Addr) (n m : Nat), vs = [.ref p, .int m] ∧ PenAt H p n ∧ n < 100000 ∧ 0 < m ∧ LimM m ∧ ∀ (d : Nat) H', d < m → ExP p H H' → PenAt H' p (n + 1) → Q (.int d) H'
def spPick : Sp := fun vs H Q _ => ∃ (p : Addr) (v : V) (n : Nat), vs = [.ref p, v] ∧ PenAt H p n ∧ n < 100000 ∧
  ((∃ (s : Addr) (xs : List V), v = .ref s ∧ H s = some (.lst xs) ∧ s ≠ p ∧ 0 < xs.length ∧ xs.length ≤ 1000 ∧ ∀ x H', x ∈ xs → ExP p H H' → PenAt H' p (n + 1) → Q x H') ∨
   (∃ z : Str, v = .str z ∧ 0 < z.length ∧ z.length ≤ 1000 ∧ ∀ c H', c ∈ z.cps.toList → ExP p H H' → PenAt H' p (n + 1) → Q (.str ⟨#[c]⟩) H'))
theorem lim_small {m : Nat} (h : m ≤ 1000) : LimM m := by
  unfold LimM
  rw [Int.natAbs_natCast]
  exact Nat.lt_of_le_of_lt h (by decide)
section
variable {P : Program} {w : World} {K : PySem.W.Frag} {mg : Str → Option Value} {base : Heap} {a : Ads}
theorem ok_pen (T : Txt w K mg a) : FnOk P w K mg base CX0 1 a.f__law_pen a.d__law_pen ["_law_script"] (spPen K) := by
  refine T.fn__law_pen.ok sc__law_pen (fun vs H Q E h => ?_) (fun cdv A outer s H vs Q E hr h => ?_)
  · obtain ⟨_, _, rfl, _⟩ := h
    rfl
  · obtain ⟨sc, ns, rfl, hs, hl, k⟩ := h
    refine ⟨_, (pss_one (ps_ret (pe_lst (pa_cons (pe_callTy call_list_of (by rfl) T.b_list (by decide +kernel) (pa_cons (pe_slice sl_list (pv 0) po_none (po_some pe_int)) pa_nil)) (pa_cons pe_int (pa_cons pe_int pa_nil)))))), ?_⟩
    obtain ⟨ms, e, hm⟩ := cut_ints ns none (some 63)
    refine s_retPen (el_is (el_listN (K := K) (el_sliceL (K := K) (ev_var rfl) eo_none (eo_some ev_c) hs)) e) fun l p H1 hl1 e1 h1 hp => ?_
    have lp : l ≠ p := fun z => by rw [z, hp] at h1; cases h1
    exact k p _ (fresh_back e1 hp) (e1.trans (Ex.new hp)) ⟨l, ms, 0, 0, upd_same, by rw [upd_ne lp]; exact h1, lp, Nat.le_refl 0, Int.le_refl 0, by omega⟩
theorem ok_draw (T : Txt w K mg a) : FnOk P w K mg base CX0 1 a.f__law_draw a.d__law_draw ["_law_pen_here", "_law_many"] spDraw := by
  refine T.fn__law_draw.ok sc__law_draw (fun vs H Q E h => ?_) (fun cdv A outer s H vs Q E hr h => ?_)
  · obtain ⟨_, _, _, rfl, _⟩ := h
    rfl
  · obtain ⟨p, n, m, rfl, ⟨l, ns, at_, rest, hp, hl, lp, hat, hrest, hlen⟩, hn, hm0, hm, k⟩ := h
    refine ⟨_, (pss_cons (ps_if (pt_cmpR op_gt (pe_ix ix_list (pv 0) pe_int (fun _ _ => rfl)) pe_int (nomark _)) (pss_cons (ps_set (i := 2) sc__law_draw.nd rfl (Or.inl rfl) (pe_op op_mod (pe_callTy call_int1 (by rfl) T.b_int (by decide +kernel) (pa_cons (pe_ix ix_list (pv 0) pe_int (fun _ _ => rfl)) pa_nil)) (pv 1)))
    (pss_cons (ps_asg (pe_op op_fdivW (pe_callTy call_int1 (by rfl) T.b_int (by decide +kernel) (pa_cons (pe_ix ix_list (pv 0) pe_int (fun _ _ => rfl)) pa_nil)) (pv 1)) (pg_sub (pv 0) pe_int set_list))
    (pss_one (ps_ret (pv 2))))) pss_nil)
    (pss_cons (ps_set (i := 3) sc__law_draw.nd rfl (Or.inl rfl) (pe_ix ix_list (pv 0) pe_int (fun _ _ => rfl)))
    (pss_cons (ps_asg (pe_op op_add (pv 3) pe_int) (pg_sub (pv 0) pe_int set_list))
    (pss_cons (ps_set (i := 4) sc__law_draw.nd rfl (Or.inl rfl) (pe_op op_add (pe_op op_mul pe_int (pv 3)) pe_int))
    (pss_cons (ps_if (pt_cmpR (op_neD hr.units) (pe_ix ix_list (pv 0) pe_int (fun _ _ => rfl)) (pe_lst pa_nil) (nomark _)) (pss_one (ps_set (i := 4) sc__law_draw.nd rfl (Or.inl rfl) (pe_ix ix_list (pe_ix ix_list (pv 0) pe_int (fun _ _ => rfl)) (pe_op op_mod (pe_callTy call_int1 (by rfl) T.b_int (by decide +kernel) (pa_cons (pv 3) pa_nil)) (pe_callB call_len_seq (by rfl) T.b_len PySem.boot_len (pa_cons (pe_ix ix_list (pv 0) pe_int (fun _ _ => rfl)) pa_nil))) (fun _ _ => rfl)))) pss_nil)
    (pss_cons (ps_if (PW.pt (pw_and (pt_cmpR op_lt (pv 3) (pe_callB call_len_seq (by rfl) T.b_len PySem.boot_len (pa_cons (pe_ix ix_list (pv 0) pe_int (fun _ _ => rfl)) pa_nil)) (nomark _)) (pw_and1 (pt_cmpR op_ge (pe_callB call_abs (by rfl) T.b_abs (by decide +kernel) (pa_cons (pv 4) pa_nil)) (pe_op op_pow pe_int pe_int) (nomark _))))) (pss_cons (ps_set (i := 5) sc__law_draw.nd rfl (Or.inl rfl) (pe_op op_add (pe_op op_mul pe_int (pe_op op_sub (pe_callB call_abs (by rfl) T.b_abs (by decide +kernel) (pa_cons (pv 4) pa_nil)) (pe_op op_pow pe_int pe_int))) (pe_callTy call_int1 (by rfl) T.b_int (by decide +kernel) (pa_cons (pe_cmpR op_lt (pv 4) pe_int (nomark _)) pa_nil))))
    (pss_cons (ps_asg (pe_op op_fdivW (pe_callTy call_int1 (by rfl) T.b_int (by decide +kernel) (pa_cons (pv 5) pa_nil)) (pv 1)) (pg_sub (pv 0) pe_int set_list))
    (pss_one (ps_ret (pe_op op_mod (pe_callTy call_int1 (by rfl) T.b_int (by decide +kernel) (pa_cons (pv 5) pa_nil)) (pv 1)))))) pss_nil)
    (pss_cons (ps_set (i := 6) sc__law_draw.nd rfl (Or.inl rfl) (pe_op op_mod (pe_callTy call_int1 (by rfl) T.b_int (by decide +kernel) (pa_cons (pe_op op_pow (pe_op op_add (pe_op op_add (pe_op op_mod (pe_callTy call_int1 (by rfl) T.b_int (by decide +kernel) (pa_cons (pv 4) pa_nil)) pe_int) (pe_op op_mul pe_int (pv 3))) pe_int) pe_int) pa_nil)) pe_int))
    (pss_cons (ps_set (i := 6) sc__law_draw.nd rfl (Or.inl rfl) (pe_op op_mod (pe_callTy call_int1 (by rfl) T.b_int (by decide +kernel) (pa_cons (pe_op op_pow (pe_op op_add (pe_op op_add (pe_op op_mul (pv 6) (pe_op op_add (pe_op op_mul pe_int (pv 3)) pe_int)) (pe_op op_mul (pe_op op_mul pe_int (pv 3)) (pv 3))) pe_int) pe_int) pa_nil)) pe_int))
    (pss_one (ps_ret (pe_op op_mod (pe_callTy call_int1 (by rfl) T.b_int (by decide +kernel) (pa_cons (pe_op op_fdiv (pv 6) pe_int) pa_nil)) (pv 1)))))))))))), ?_⟩
    have fin : ∀ (H1 H4 : Hp) (x r : Int) (b : Nat), ExB p H H1 → b ≤ n + 1 → 0 ≤ r → Ex (upd H1 p (.lst [.ref l, .int b, .int r])) H4 → 0 ≤ x → x < m → Q (.int x) H4 := fun H1 H4 x r b e1 hb hr0 e4 h0 h1 => by
      have ex : x = (x.toNat : Nat) := by omega
      rw [ex]
      refine k x.toNat _ (by omega) ⟨fun c o hc ne => e4 _ _ (by rw [upd_ne ne]; exact e1 _ _ hc ne), fun l' x' y' q => by
        rw [hp] at q
        cases q
        exact ⟨_, _, e4 _ _ upd_same⟩⟩ ⟨l, ns, b, r, e4 _ _ upd_same, e4 _ _ (by rw [upd_ne lp]; exact e1 _ _ hl lp), lp, hb, hr0, hlen⟩
    have hm1 : (0 : Int) < (m : Int) := by omega
    -- if pen[2] > 0
    refine q_when (b := decide (0 < rest)) (et_test (ev_op (ev_op (ev_var rfl) ev_c (rv_ixL (sq_of hp) rfl)) ev_c rv_I0)) (fun hb H1 e1 => ?_) (fun hb H1 e1 => ?_)
    · have hp1 := e1 _ _ hp
      refine q_asg (v := .int (rest % m)) (ev_op (ev_int (ev_op (ev_var rfl) ev_c (rv_ixL (sq_of hp1) rfl))) (ev_var rfl) (rv_I (by omega))) fun H2 e2 => ?_
      have hp2 := e2 _ _ hp1
      refine q_setL (j := 2) hp2 (v := .int (rest / m)) (ev_op (ev_int (ev_op (ev_var rfl) ev_c (rv_ixL (sq_of hp2) rfl))) (ev_var rfl) (rv_I (wide_div (b := 200) hm1 hm (by decide) (by decide)))) (ev_var rfl) ev_c (by show 2 < 3; decide) fun H3 e3 => ?_
      refine s_ret (v := .int (rest % m)) (ev_var rfl) fun H4 e4 => ?_
      exact fin H3 H4 _ _ _ (ExB.of ((e1.trans e2).trans e3)) (Nat.le_succ_of_le hat) (Int.ediv_nonneg hrest (by omega)) e4 (Int.emod_nonneg _ (by omega)) (Int.emod_lt_of_pos _ hm1)
    · have hr0 : rest = 0 := by have := of_decide_eq_false hb; omega
      have hp1 := e1 _ _ hp
      refine q_asg (v := .int at_) (ev_op (ev_var rfl) ev_c (rv_ixL (sq_of hp1) rfl)) fun H2 e2 => ?_
      have hp2 := e2 _ _ hp1
      refine q_setL (j := 1) hp2 (v := .int (at_ + 1)) (by walk_at "ev") (ev_var rfl) ev_c (by show 1 < 3; decide) fun H3 e3 => ?_
      have e03 : Ex H H3 := (e1.trans e2).trans e3
      have hp3 : (upd H3 p (.lst [.ref l, .int (at_ + 1), .int rest])) p = some (.lst [.ref l, .int (at_ + 1), .int rest]) := upd_same
      have hl3 : (upd H3 p (.lst [.ref l, .int (at_ + 1), .int rest])) l = some (.lst (ns.map V.int)) := by rw [upd_ne lp]; exact e03 _ _ hl
      have b03 : ExB p H (upd H3 p (.lst [.ref l, .int (at_ + 1), .int rest])) := fun c o hc ne => by rw [upd_ne ne]; exact e03 _ _ hc
      generalize eK : (upd H3 p (.lst [.ref l, .int (at_ + 1), .int rest])) = K3 at hp3 hl3 b03
      show tSeq _ _ _ _ (upd H3 p (.lst [.ref l, .int (at_ + 1), .int rest]))
      rw [eK]
      -- cell
      refine q_asg (v := .int (50147 * at_ + 353)) (by walk_at "ev"; exact .inl ⟨by decide, by decide⟩) fun H4 e4 => ?_
      have hp4 := e4 _ _ hp3
      have hl4 := e4 _ _ hl3
      obtain ⟨cell, hc1, hc2⟩ : ∃ cell : Int, (ns ≠ [] → atI (ns.map V.int) ((at_ : Int) % ((ns.map V.int).length : Nat)) = some (.int cell)) ∧ (ns = [] → cell = 50147 * at_ + 353) := by
        by_cases hns : ns = []
        · exact ⟨50147 * at_ + 353, fun z => absurd hns z, fun _ => rfl⟩
        · have hpos : 0 < ns.length := List.length_pos_iff.mpr hns
          have hj : at_ % ns.length < ns.length := Nat.mod_lt _ hpos
          refine ⟨ns[at_ % ns.length], fun _ => ?_, fun z => absurd z hns⟩
          rw [List.length_map, show ((at_ : Int) % (ns.length : Nat)) = ((at_ % ns.length : Nat) : Int) by omega]
          exact atI_nat (by simp [hj])
      have hlenZ : ns ≠ [] → (0 : Int) < ((ns.map V.int).length : Nat) := fun hns => by
        have hpos : 0 < ns.length := List.length_pos_iff.mpr hns
        rw [List.length_map]; omega
      refine q_ifAsg (b := !PyData.eqv (.list (ns.map PyData.int)) (.list [])) (v := .int cell) (et_test (ev_opL (ev_op (ev_var rfl) ev_c (rv_ixL (sq_of hp4) rfl)) (el_lst ea_nil (by decide)) fun q H5 hq e5 => rv_neE (e5 _ _ hl4) hq)) (fun hb => ?_) (fun hb => ?_) fun H5 e5 => ?_
      · have hns : ns ≠ [] := fun z => by rw [eqv_nil, z] at hb; cases hb
        refine ev_op (ev_op (ev_var rfl) ev_c (rv_ixL (sq_of hp4) rfl)) (ev_op (ev_int (ev_var rfl)) (ev_lenS (ev_op (ev_var rfl) ev_c (rv_ixL (sq_of hp4) rfl)) (sq_of hl4)) (rv_I (hlenZ hns))) (rv_ixL (sq_of hl4) (hc1 hns))
      · have hns : ns = [] := by
          rw [eqv_nil] at hb
          simpa using hb
        rw [hc2 hns]
        rfl
      have hp5 := e5 _ _ hp4
      have hl5 := e5 _ _ hl4
      -- if at < len(pen[0]) and abs(cell) >= 10 ** 18
      refine q_when (b := decide ((at_ : Int) < ((ns.map V.int).length : Nat)) && decide ((10 : Int) ^ (18 : Int).toNat ≤ (if cell < 0 then -cell else cell))) (et_and (et_test (ev_op (ev_var rfl) (ev_lenS (ev_op (ev_var rfl) ev_c (rv_ixL (sq_of hp5) rfl)) (sq_of hl5)) rv_I0)) fun _ => et_test (ev_op (ev_abs (ev_var rfl)) (ev_op ev_c ev_c (rv_I ⟨by decide, by decide, by decide⟩)) rv_I0)) (fun hb H6 e6 => ?_) (fun hb H6 e6 => ?_)
      · have hge := of_decide_eq_true (Bool.and_eq_true_iff.mp hb).2
        have hp6 := e6 _ _ hp5
        refine q_asg (v := .int (2 * ((if cell < 0 then -cell else cell) - 10 ^ (18 : Int).toNat) + (if decide (cell < 0) = true then 1 else 0))) (ev_op (ev_op ev_c (ev_op (ev_abs (ev_var rfl)) (ev_op ev_c ev_c (rv_I ⟨by decide, by decide, by decide⟩)) rv_I0) (rv_I (.inl ⟨by decide, by decide⟩))) (ev_intB (ev_op (ev_var rfl) ev_c rv_I0)) rv_I0) fun H7 e7 => ?_
        have hg0 : 0 ≤ 2 * ((if cell < 0 then -cell else cell) - 10 ^ (18 : Int).toNat) + (if decide (cell < 0) = true then 1 else 0) := by
          have : (0 : Int) ≤ (if decide (cell < 0) = true then 1 else 0) := by split <;> decide
          omega
        generalize 2 * ((if cell < 0 then -cell else cell) - 10 ^ (18 : Int).toNat) + (if decide (cell < 0) = true then 1 else 0) = great at hg0
        refine q_setL (j := 2) (e7 _ _ hp6) (v := .int (great / m)) (ev_op (ev_int (ev_var rfl)) (ev_var rfl) (rv_I (wide_div (b := 200) hm1 hm (by decide) (by decide)))) (ev_var rfl) ev_c (by show 2 < 3; decide) fun H8 e8 => ?_
        refine s_ret (v := .int (great % m)) (ev_op (ev_int (ev_var rfl)) (ev_var rfl) (rv_I hm1)) fun H9 e9 => ?_
        exact fin H8 H9 _ (great / m) (at_ + 1) (b03.trans (ExB.of ((((e4.trans e5).trans e6).trans e7).trans e8))) (by omega) (Int.ediv_nonneg hg0 (by omega)) e9 (Int.emod_nonneg _ (by omega)) (Int.emod_lt_of_pos _ hm1)
      · have hat5 : (at_ : Int) ≤ 100000 := by omega
        have hu0 : 0 ≤ cell % 2147483549 + 60161 * at_ + 353 ∧ cell % 2147483549 + 60161 * at_ + 353 < 18446744073709551616 := by
          have h1 := Int.emod_nonneg cell (show (2147483549 : Int) ≠ 0 by decide)
          have h2 := Int.emod_lt_of_pos cell (show (0 : Int) < 2147483549 by decide)
          omega
        refine q_asg (v := .int ((cell % 2147483549 + 60161 * at_ + 353) ^ (5 : Int).toNat % 2147483629)) (ev_op (ev_int (ev_op (ev_op (ev_op (ev_op (ev_int (ev_var rfl)) ev_c (rv_I (by decide))) (ev_op ev_c (ev_var rfl) (rv_I (.inl ⟨by decide, by decide⟩))) rv_I0) ev_c rv_I0) ev_c (rv_I ⟨by decide, by decide, by omega⟩))) ev_c (rv_I (by decide))) fun H7 e7 => ?_
        have hx0 := Int.emod_nonneg ((cell % 2147483549 + 60161 * at_ + 353) ^ (5 : Int).toNat) (show (2147483629 : Int) ≠ 0 by decide)
        have hx1 := Int.emod_lt_of_pos ((cell % 2147483549 + 60161 * at_ + 353) ^ (5 : Int).toNat) (show (0 : Int) < 2147483629 by decide)
        generalize (cell % 2147483549 + 60161 * at_ + 353) ^ (5 : Int).toNat % 2147483629 = mx at hx0 hx1
        obtain ⟨b1, b2⟩ := mul_bd hx0 (Int.le_of_lt hx1) (y := 2 * at_ + 47) (B := 300000) (by omega) (by omega)
        obtain ⟨b3, b4⟩ := mul_bd (x := 70117 * at_) (A := 8000000000) (y := at_) (B := 100000) (by omega) (by omega) (by omega) hat5
        refine q_asg (v := .int ((mx * (2 * at_ + 47) + 70117 * at_ * at_ + 17) ^ (3 : Int).toNat % 2147483587)) (ev_op (ev_int (ev_op (ev_op (ev_op (ev_op (ev_var rfl) (ev_op (ev_op ev_c (ev_var rfl) (rv_I (.inl ⟨by decide, by decide⟩))) ev_c rv_I0) (rv_I (.inl ⟨by omega, by omega⟩))) (ev_op (ev_op ev_c (ev_var rfl) (rv_I (.inl ⟨by decide, by decide⟩))) (ev_var rfl) (rv_I (.inl ⟨by omega, by omega⟩))) rv_I0) ev_c rv_I0) ev_c (rv_I ⟨by decide, by decide, by omega⟩))) ev_c (rv_I (by decide))) fun H8 e8 => ?_
        refine s_ret (v := .int (((mx * (2 * at_ + 47) + 70117 * at_ * at_ + 17) ^ (3 : Int).toNat % 2147483587) / 32 % m)) (ev_op (ev_int (ev_op (ev_var rfl) ev_c (rv_I ⟨by decide, by decide⟩))) (ev_var rfl) (rv_I hm1)) fun H9 e9 => ?_
        refine fin H3 H9 _ rest (at_ + 1) (ExB.of e03) (by omega) hrest ?_ (Int.emod_nonneg _ (by omega)) (Int.emod_lt_of_pos _ hm1)
        intro c o hc
        exact e9 _ _ (e8 _ _ (e7 _ _ (e6 _ _ (e5 _ _ (e4 _ _ (by rw [← eK]; exact hc))))))
theorem ok_pick (T : Txt w K mg a) : FnOk P w K mg base CX0 2 a.f__law_pick a.d__law_pick ["_law_pen_here", "_law_some"] spPick := by
  have G__law_draw : FnOk P w K mg base CX0 1 _ _ _ _ := ok_draw T
  refine T.fn__law_pick.ok sc__law_pick (fun vs H Q E h => ?_) (fun cdv A outer s H vs Q E hr h => ?_)
  · obtain ⟨_, _, _, rfl, _⟩ := h
    rfl
  · obtain ⟨p, v, n, rfl, hp, hn, h⟩ := h
    have hrc : Room 1 _ := hr
    refine ⟨_, (pss_one (ps_ret (pe_ix ix_seq (pv 1) (pe_call G__law_draw hrc rfl T.mg__law_draw T.fn__law_draw.kp (bd__law_draw T) .nil pass0 (pa_cons (pv 0) (pa_cons (pe_callB call_len (by rfl) T.b_len PySem.boot_len (pa_cons (pv 1) pa_nil)) pa_nil))) (fun _ _ => rfl)))), ?_⟩
    rcases h with ⟨s, xs, rfl, hs, sp, h0, h1, k⟩ | ⟨z, rfl, h0, h1, k⟩
    · refine ⟨.ref s, rfl, .ref p, rfl, .ref s, rfl, .ref s, xs.length, rfl, .inl ⟨xs, sq_of hs, rfl⟩, p, n, xs.length, rfl, hp, hn, h0, lim_small h1, fun d H1 hd e1 hp1 => ?_⟩
      exact .inl ⟨s, xs, d, xs[d], rfl, rfl, sq_of (e1.ex _ _ hs sp), atI_nat (by simp [hd]), k _ _ (List.getElem_mem hd) e1 hp1⟩
    · have hz : z.length ≤ sizeLine := sz_of (by omega)
      have hl : z.cps.toList.length = z.length := Array.length_toList
      refine ⟨.str z, rfl, .ref p, rfl, .str z, rfl, .str z, z.length, rfl, ⟨hz, rfl⟩, p, n, z.length, rfl, hp, hn, h0, lim_small h1, fun d H1 hd e1 hp1 => ?_⟩
      have hd2 : d < z.cps.toList.length := by omega
      exact .inr (.inr ⟨z, d, z.cps.toList[d], rfl, rfl, hz, atI_nat (by simp [hd2]), k _ _ (List.getElem_mem hd2) e1 hp1⟩)
end
/-- the pen, its cells at l -/
def PenL (H : Hp) (p l : Addr) (n : Nat) : Prop := ∃ (ns : List Int) (at_ : Nat) (rest : Int), H p = some (.lst [.ref l, .int at_, .int rest]) ∧ H l = some (.lst (ns.map V.int)) ∧ l ≠ p ∧ at_ ≤ n ∧ 0 ≤ rest ∧ ns.length ≤ 63
section
variable {H H' : Hp} {p l d : Addr} {n m : Nat}
theorem PenL.pen (h : PenL H p l n) : PenAt H p n := let ⟨ns, a, r, q⟩ := h; ⟨l, ns, a, r, q⟩
theorem PenAt.fixL (h : PenAt H p n) : ∃ l, PenL H p l n := let ⟨l, ns, a, r, q⟩ := h; ⟨l, ns, a, r, q⟩
theorem PenL.keep (h : PenL H p l n) (e : Ex H H') : PenL H' p l n := let ⟨ns, a, r, h1, h2, q⟩ := h; ⟨ns, a, r, e _ _ h1, e _ _ h2, q⟩
theorem PenL.upd {o : HO} (h : PenL H p l n) (n1 : p ≠ d) (n2 : l ≠ d) : PenL (upd H d o) p l n := let ⟨ns, a, r, h1, h2, q⟩ := h; ⟨ns, a, r, by rw [upd_ne n1]; exact h1, by rw [upd_ne n2]; exact h2, q⟩
theorem PenL.ne (h : PenL H p l n) (z : H d = none) : p ≠ d ∧ l ≠ d := let ⟨_, _, _, h1, h2, _⟩ := h; ⟨ne_of_none h1 z, ne_of_none h2 z⟩
theorem PenL.next (h : PenL H p l n) (b : PenAt H' p m) (c : ExP p H H') : PenL H' p l m := by
  obtain ⟨ns, a, r, h1, _⟩ := h
  obtain ⟨x', y', e⟩ := c.fix l _ _ h1
  obtain ⟨l2, ns2, a2, r2, f1, q⟩ := b
  rw [f1] at e
  cases e
  exact ⟨ns2, a2, r2, f1, q⟩
theorem PenL.more (h : PenL H p l n) (k : n ≤ m) : PenL H p l m := let ⟨ns, a, r, h1, h2, h3, h4, h5⟩ := h; ⟨ns, a, r, h1, h2, h3, Nat.le_trans h4 k, h5⟩
theorem PenAt.ne_tup (h : PenAt H p n) {q : Addr} {xs : List V} (hq : H q = some (.tup xs)) : q ≠ p := let ⟨_, _, _, _, h1, _⟩ := h; ne_of hq h1 fun z => nomatch z
theorem PenAt.ne_new (h : PenAt H p n) {q : Addr} (hq : H q = none) : q ≠ p := let ⟨_, _, _, _, h1, _⟩ := h; (ne_of_none h1 hq).symm
end

theorem PenAt.more {H : Hp} {p : Addr} {n m : Nat} (h : PenAt H p n) (k : n ≤ m) : PenAt H p m := let ⟨l, ns, a, r, h1, h2, h3, h4, h5⟩ := h; ⟨l, ns, a, r, h1, h2, h3, Nat.le_trans h4 k, h5⟩
section
variable {K : PySem.W.Frag} {σ : L2.St} {H : Hp} {t1 t2 ta tb te : TE} {D : Ends} {tz : TS} {i j n : Nat} {p lc : Addr} {E : XK} {Q : VK} {x : V} {r : R2}
theorem draw_r (m : Nat) (hi : σ[i]? = some (some (.ref p))) (hm : Ev te σ H (.int (m : Nat))) (pen : PenL H p lc n) (hn : n < 100000) (h0 : 0 < m) (hl : m ≤ 1000) (k : ∀ d H', d < m → ExP p H H' → PenL H' p lc (n + 1) → Q (.int (d : Nat)) H') : tCall spDraw [] E (tCons (tVar i) (tCons te tNil)) σ H Q :=
  ⟨.ref p, hi, hm H (Ex.refl H) _ fun H1 e1 => ⟨p, n, m, rfl, (pen.keep e1).pen, hn, h0, lim_small hl, fun d H' hd e b => k d H' hd ((ExP.of e1).trans e) ((pen.keep e1).next b e)⟩⟩
theorem pick_raw (hi : σ[i]? = some (some (.ref p))) (h : te σ H fun v H1 => spPick [.ref p, v] H1 Q E) : tCall spPick [] E (tCons (tVar i) (tCons te tNil)) σ H Q := ⟨.ref p, hi, h⟩
/-- a pick out of a list -/
theorem pk_list {s : Addr} {xs : List V} (pen : PenL H p lc n) (hn : n < 100000) (hs : H s = some (.lst xs)) (sp : s ≠ p) (h0 : 0 < xs.length) (h1 : xs.length ≤ 1000) (k : ∀ x H', x ∈ xs → ExP p H H' → PenL H' p lc (n + 1) → Q x H') : spPick [.ref p, .ref s] H Q E :=
  ⟨p, _, n, rfl, pen.pen, hn, .inl ⟨s, xs, rfl, hs, sp, h0, h1, fun x H' hx e b => k x H' hx e (pen.next b e)⟩⟩
theorem pk_str {z : Str} (pen : PenL H p lc n) (hn : n < 100000) (h0 : 0 < z.length) (h1 : z.length ≤ 1000) (k : ∀ c H', c ∈ z.cps.toList → ExP p H H' → PenL H' p lc (n + 1) → Q (.str ⟨#[c]⟩) H') : spPick [.ref p, .str z] H Q E :=
  ⟨p, _, n, rfl, pen.pen, hn, .inr ⟨z, rfl, h0, h1, fun x H' hx e b => k x H' hx e (pen.next b e)⟩⟩
theorem ev_raw (h : Ev te σ H x) (k : ∀ H1, Ex H H1 → Q x H1) : te σ H Q := h H (Ex.refl H) Q k
theorem el_raw {xs : List V} (h : EvL te σ H xs) (k : ∀ l H1, H l = none → Ex H H1 → H1 l = some (.lst xs) → Q (.ref l) H1) : te σ H Q := h H (Ex.refl H) Q k
theorem PenL.neL {l : Addr} {xs : List V} (pen : PenL H p lc n) (hl : H l = some (.lst xs)) (ne : ∀ u v w, xs ≠ [u, v, w] ∨ (∀ q, u ≠ .ref q)) : l ≠ p := by
  obtain ⟨ns, at_, rest, h1, _⟩ := pen
  intro z
  rw [z, h1] at hl
  have e := Option.some.inj hl
  injection e with e
  rcases ne (.ref lc) (.int at_) (.int rest) with h | h
  · exact h e.symm
  · exact h lc rfl
end
/-- append, the new item raw -/
theorem s_app1 {K : PySem.W.Frag} {σ : L2.St} {H : Hp} {te : TE} {D : Ends} {j : Nat} {l : Addr} {ys : List V} (hj : σ[j]? = some (some (.ref l))) (hl : H l = some (.lst ys)) (h : te σ H fun v H2 => ∃ l' xs y, V.ref l = .ref l' ∧ [v] = [y] ∧ H2 l' = some (.lst xs) ∧ xs.length < sizeLine ∧ D.nx σ (upd H2 l' (.lst (xs ++ [y])))) : tDrop (tBM K "list" rAppend (tVar j) (tCons te tNil)) D σ H :=
  ⟨.ref l, hj, Or.inl ⟨rfl, ys, sq_of hl⟩, h⟩
theorem q_app1 {K : PySem.W.Frag} {σ : L2.St} {H : Hp} {te : TE} {D : Ends} {tz : TS} {j : Nat} {l : Addr} {ys : List V} (hj : σ[j]? = some (some (.ref l))) (hl : H l = some (.lst ys)) (h : te σ H fun v H2 => ∃ l' xs y, V.ref l = .ref l' ∧ [v] = [y] ∧ H2 l' = some (.lst xs) ∧ xs.length < sizeLine ∧ tz D σ (upd H2 l' (.lst (xs ++ [y])))) : tSeq (tDrop (tBM K "list" rAppend (tVar j) (tCons te tNil))) tz D σ H :=
  ⟨.ref l, hj, Or.inl ⟨rfl, ys, sq_of hl⟩, h⟩
theorem q_parD {σ : L2.St} {H : Hp} {t1 t2 : TE} {D : Ends} {tz : TS} {i j : Nat} (h : t1 σ H fun v H1 => t2 σ H1 fun w H2 => ∃ v' w', [v, w] = [v', w'] ∧ tz D ((σ.set i (some v')).set j (some w')) H2) : tSeq (tPar i j (tCons t1 (tCons t2 tNil))) tz D σ H := h
theorem q_asgD {σ : L2.St} {H : Hp} {te : TE} {D : Ends} {tz : TS} {i : Nat} (h : te σ H fun v H1 => tz D (σ.set i (some v)) H1) : tSeq (tAsg te (gName i)) tz D σ H := h
end KL
set_option Elab.async false
set_option linter.all false
set_option maxRecDepth 100000
set_option maxHeartbeats 4000000
namespace KL
open PySem PySem.Spec PyProof.Rows L2 Evl KF
local macro_rules | `(tactic| walk_at "ev") => `(tactic| repeat' (first | exact ev_c | exact ev_var rfl | exact rv_I0 | refine' rv_I ?_ | refine' rv_eq ?_ | refine' rv_ne ?_ | refine' ev_op ?_ ?_ ?_ | exact ea_nil | refine' ea_cons ?_ ?_ | refine' et_test ?_ | refine' et_B ?_ | refine' et_not ?_ | refine' ev_notV ?_))

open PySem
/-! ### what the law says of clauses -/
theorem rv_addS {H : Hp} {a b : Str} (h : a.length + b.length ≤ 100000) : RV (fun x y H Q => ∃ a b, x = .str a ∧ y = .str b ∧ a.length + b.length ≤ sizeLine ∧ Q (.str (a ++ b)) H) (.str a) (.str b) H (.str (a ++ b)) := fun H1 _ _ q => ⟨a, b, rfl, rfl, sz_of h, q H1 (Ex.refl H1)⟩
theorem ev_lenStr {σ : L2.St} {H : Hp} {te : TE} {s : Str} (h : Ev te σ H (.str s)) (hz : s.length ≤ 100000) : Ev (tCB (fun xs H Q => ∃ z : Str, xs = [.str z] ∧ z.length ≤ sizeLine ∧ Q (.int z.length) H) (tCons te tNil)) σ H (.int (s.length : Nat)) := fun H1 e Q q => h H1 e _ fun H2 e2 => ⟨s, rfl, sz_of hz, q H2 e2⟩
theorem getD_at {l : List Nat} {i : Nat} (h : i < l.length) : l.getD i 0 = l[i] := by
  rw [List.getD_eq_getElem?_getD, List.getElem?_eq_getElem h]
  rfl
theorem cut_sum (t : Str) {i j : Nat} (h : i ≤ j) : (cutS t none (some (i : Nat))).cps.size + (cutS t (some (j : Nat)) none).cps.size ≤ t.cps.size := by
  have : (cutS t none (some (i : Nat))).cps.toList.length + (cutS t (some (j : Nat)) none).cps.toList.length ≤ t.cps.toList.length := by
    unfold cutS
    simp [List.length_take, List.length_drop, HT.sIx_nat, HT.sIx_none]
    omega
  simpa using this
theorem ret_raw {te : TE} {σ : L2.St} {H : Hp} {D : Ends} (h : te σ H D.rt) : tRet te D σ H := h
def whoL : List Str := ["ugo", "u", "g", "o", "ug", "uo", "go"]
def whatL : List Str := ["r", "w", "x", "X", "rX", "rwx", "rwX", "wx", "rx", "", "u", "g", "o", "xX", "rwxX"]
def signL : List Str := ["+", "-", "="]
theorem drawn_ok : (∀ s ∈ whoL, s ∈ allWho) ∧ (∀ s ∈ signL, s ∈ allSign) ∧ ∀ s ∈ whatL, s ∈ allw := by decide +kernel
theorem mem_strs {x : V} {ss : List Str} (h : x ∈ ss.map V.str) : ∃ s, s ∈ ss ∧ x = .str s := by
  obtain ⟨s, hs, e⟩ := List.mem_map.mp h
  exact ⟨s, hs, e.symm⟩
def spCl : Sp := fun vs H Q _ => ∃ (p lc : Addr) (n : Nat), vs = [.ref p] ∧ PenL H p lc n ∧ n + 3 ≤ 100000 ∧ ∀ t who sign what H', H t = none → ExP p H H' → PenL H' p lc (n + 3) → H' t = some (.tup [.str who, .str sign, .str what]) → POk who sign what → Q (.ref t) H'
def spText : Sp := fun vs H Q _ => ∃ (t : Addr) (who sign what : Str), vs = [.ref t] ∧ H t = some (.tup [.str who, .str sign, .str what]) ∧ POk who sign what ∧ ∀ H', Ex H H' → Q (.str (clTxt who sign what)) H'
section
variable {K : PySem.W.Frag} {σ : L2.St} {H : Hp} {te tl : TE} {ta : TA} {g : Addr} {xs : List V} {x : V} {i : Nat} {Q : VK} {E : XK} {tr : TA} {vs : List V}
theorem ev_ixt (h : Ev te σ H (.ref g)) (hp : H g = some (.tup xs)) (hx : xs[i]? = some x) : Ev (tOp (rIxT K) te (tC (.int (i : Nat)))) σ H x := ev_op h ev_c (rv_ixT (st_of hp) (atI_nat hx))
theorem ev_ixl (h : Ev te σ H (.ref g)) (hp : H g = some (.lst xs)) (hx : xs[i]? = some x) : Ev (tOp (rIxL K) te (tC (.int (i : Nat)))) σ H x := ev_op h ev_c (rv_ixL (sq_of hp) (atI_nat hx))
/-- a tuple, its first item raw -/
theorem tup_raw {tr : TA} (h : te σ H fun v H1 => tr σ H1 fun xs H2 => (v :: xs).length ≤ sizeLine ∧ ∀ l, H2 l = none → Q (.ref l) (upd H2 l (.tup (v :: xs)))) : tTup (tCons te tr) σ H Q := h
end
theorem app_size (a b : Str) : (a ++ b).cps.size = a.cps.size + b.cps.size := by
  show (a.cps ++ b.cps).size = _
  rw [Array.size_append]
theorem first_head (s : Str) : ((List.range s.cps.size).filter fun i => isSign (s.cps.toList.getD i 0)).head? = firstS s := by
  unfold firstS
  rw [List.head?_filter]
  cases h : s.cps.toList.findIdx? isSign with
  | none =>
    rw [List.findIdx?_eq_none_iff] at h
    rw [List.find?_eq_none]
    intro i hi
    have hi : i < s.cps.toList.length := by rw [Array.length_toList]; exact List.mem_range.mp hi
    have e : s.cps.toList.getD i 0 = s.cps.toList[i] := getD_at hi
    rw [e, h _ (List.getElem_mem hi)]
    decide
  | some i =>
    rw [List.findIdx?_eq_some_iff_getElem] at h
    obtain ⟨hi, hp, no⟩ := h
    have e : ∀ j (hj : j < s.cps.toList.length), s.cps.toList.getD j 0 = s.cps.toList[j] := fun j hj => getD_at hj
    rw [List.find?_range_eq_some]
    refine ⟨by rw [e i hi]; exact hp, List.mem_range.mpr (by rw [← Array.length_toList]; exact hi), fun j hj => ?_⟩
    have := no j hj
    rw [e j (Nat.lt_trans hj hi)]
    cases hq : isSign (s.cps.toList[j]'(Nat.lt_trans hj hi)) with
    | false => rfl
    | true => exact absurd hq this
theorem sign_in : ∀ c : Nat, decide (c ∈ ("+-=" : Str).cps.toList) = isSign c := by
  intro c
  have e1 : ("+-=" : Str).cps.toList = [43, 45, 61] := by decide +kernel
  have e2 : allSign = [⟨#[43]⟩, ⟨#[45]⟩, ⟨#[61]⟩] := by decide +kernel
  unfold isSign
  rw [e1, e2, Bool.eq_iff_iff]
  simp
section
variable {P : Program} {w : World} {K : PySem.W.Frag} {mg : Str → Option Value} {base : Heap} {a : Ads}
theorem ok_cl (T : Txt w K mg a) : FnOk P w K mg base CX0 3 a.f__law_clause a.d__law_clause ["_law_pen_here"] spCl := by
  have G__law_pick : FnOk P w K mg base CX0 2 _ _ _ _ := ok_pick T
  refine T.fn__law_clause.ok sc__law_clause (fun vs H Q E h => ?_) (fun cdv A outer st H vs Q E hr h => ?_)
  · obtain ⟨_, _, _, rfl, _⟩ := h
    rfl
  · obtain ⟨p, lc, n, rfl, pen, hn, k⟩ := h
    have hrc : Room 2 _ := hr
    refine ⟨_, (pss_cons (ps_set (i := 1) sc__law_clause.nd rfl (Or.inl rfl) (pe_call G__law_pick hrc rfl T.mg__law_pick T.fn__law_pick.kp (bd__law_pick T) .nil pass0 (pa_cons (pv 0) (pa_cons (pe_lst (pa_cons pe_str (pa_cons pe_str (pa_cons pe_str (pa_cons pe_str (pa_cons pe_str (pa_cons pe_str (pa_cons pe_str pa_nil)))))))) pa_nil))))
    (pss_cons (ps_set (i := 2) sc__law_clause.nd rfl (Or.inl rfl) (pe_call G__law_pick hrc rfl T.mg__law_pick T.fn__law_pick.kp (bd__law_pick T) .nil pass0 (pa_cons (pv 0) (pa_cons (pe_lst (pa_cons pe_str (pa_cons pe_str (pa_cons pe_str (pa_cons pe_str (pa_cons pe_str (pa_cons pe_str (pa_cons pe_str (pa_cons pe_str (pa_cons pe_str (pa_cons pe_str (pa_cons pe_str (pa_cons pe_str (pa_cons pe_str (pa_cons pe_str (pa_cons pe_str pa_nil)))))))))))))))) pa_nil))))
    (pss_one (ps_ret (pe_tup (pa_cons (pv 1) (pa_cons (pe_call G__law_pick hrc rfl T.mg__law_pick T.fn__law_pick.kp (bd__law_pick T) .nil pass0 (pa_cons (pv 0) (pa_cons (pe_lst (pa_cons pe_str (pa_cons pe_str (pa_cons pe_str pa_nil)))) pa_nil))) (pa_cons (pv 2) pa_nil)))))))), ?_⟩
    refine q_asgD (pick_raw rfl (el_raw (el_lst (vs := whoL.map V.str) (ea_cons ev_c (ea_cons ev_c (ea_cons ev_c (ea_cons ev_c (ea_cons ev_c (ea_cons ev_c (ea_cons ev_c ea_nil))))))) (by show 7 ≤ 100000; decide)) fun l1 H1 hl1 e1 h1 => pk_list (lc := lc) (pen.keep e1) (by omega) h1 (pen.pen.ne_new hl1) (by show 0 < 7; decide) (by show 7 ≤ 1000; decide) fun x1 H2 hx1 e2 pen2 => ?_))
    obtain ⟨who, hwho, rfl⟩ := mem_strs hx1
    refine q_asgD (pick_raw rfl (el_raw (el_lst (vs := whatL.map V.str) (ea_cons ev_c (ea_cons ev_c (ea_cons ev_c (ea_cons ev_c (ea_cons ev_c (ea_cons ev_c (ea_cons ev_c (ea_cons ev_c (ea_cons ev_c (ea_cons ev_c (ea_cons ev_c (ea_cons ev_c (ea_cons ev_c (ea_cons ev_c (ea_cons ev_c ea_nil))))))))))))))) (by show 15 ≤ 100000; decide)) fun l3 H3 hl3 e3 h3 => pk_list (lc := lc) (pen2.keep e3) (by omega) h3 (pen2.pen.ne_new hl3) (by show 0 < 15; decide) (by show 15 ≤ 1000; decide) fun x3 H4 hx3 e4 pen4 => ?_))
    obtain ⟨what, hwhat, rfl⟩ := mem_strs hx3
    have x04 : ExP p H H4 := (((ExP.of e1).trans e2).trans (ExP.of e3)).trans e4
    refine ret_raw (tup_raw (ev_raw (ev_var rfl) fun H5 e5 => pick_raw (p := p) rfl (el_raw (el_lst (vs := signL.map V.str) (ea_cons ev_c (ea_cons ev_c (ea_cons ev_c ea_nil))) (by show 3 ≤ 100000; decide)) fun l6 H6 hl6 e6 h6 => pk_list (lc := lc) (pen4.keep (e5.trans e6)) (by omega) h6 ((pen4.keep e5).pen.ne_new hl6) (by show 0 < 3; decide) (by show 3 ≤ 1000; decide) fun x6 H7 hx6 e7 pen7 => ?_)))
    obtain ⟨sign, hsign, rfl⟩ := mem_strs hx6
    refine (ea_cons (ev_var rfl) ea_nil : EvA _ _ H7 [.str what]) H7 (Ex.refl _) _ fun H8 e8 => ⟨by show 3 ≤ sizeLine; decide, fun t ht => ?_⟩
    have x08 : ExP p H H8 := ((x04.trans (ExP.of (e5.trans e6))).trans e7).trans (ExP.of e8)
    have tp : t ≠ p := (pen7.keep e8).pen.ne_new ht
    have en := Ex.new ht (o := .tup [.str who, .str sign, .str what])
    refine k t who sign what _ ?_ (x08.trans (ExP.of en)) ((pen7.keep (e8.trans en)).more (by omega)) upd_same ⟨drawn_ok.1 _ hwho, drawn_ok.2.1 _ hsign, drawn_ok.2.2 _ hwhat⟩
    cases hx : H t with
    | none => rfl
    | some o =>
      have := x08.ex _ _ hx tp
      rw [ht] at this
      cases this
theorem ok_text (T : Txt w K mg a) : FnOk P w K mg base CX0 1 a.f__law_text a.d__law_text ["_law_told"] spText := by
  refine T.fn__law_text.ok sc__law_text (fun vs H Q E h => ?_) (fun cdv A outer s H vs Q E hr h => ?_)
  · obtain ⟨_, _, _, _, rfl, _⟩ := h
    rfl
  · obtain ⟨t, who, sign, what, rfl, ht, ok, k⟩ := h
    refine ⟨_, (pss_one (ps_ret (pe_op op_add_str (pe_op op_add_str (pe_ifExp (pt_cmpR op_eq (pe_ix ix_tup (pv 0) pe_int (fun _ _ => rfl)) pe_str (nomark _)) pe_str (pe_ix ix_tup (pv 0) pe_int (fun _ _ => rfl))) (pe_ix ix_tup (pv 0) pe_int (fun _ _ => rfl))) (pe_ix ix_tup (pv 0) pe_int (fun _ _ => rfl))))), ?_⟩
    have l1 := (sizes.1 who ok.who).2
    have l2 := sizes.2.1 sign ok.sign
    have l3 := sizes.2.2 what ok.what
    have l12 := app_size (who0N who) sign
    refine s_ret (v := .str (clTxt who sign what)) (ev_is (ev_op (ev_op (ev_if (b := decide (V.str who = V.str "ugo")) (v := .str (who0N who)) (et_test (ev_op (ev_ixt (K := K) (i := 0) (ev_var rfl) ht rfl) ev_c (rv_eq rfl))) (fun hb => ev_is ev_c (by unfold who0N; rw [if_pos (V.str.inj (of_decide_eq_true hb))])) (fun hb => ev_is (ev_ixt (K := K) (i := 0) (ev_var rfl) ht rfl) (by unfold who0N; rw [if_neg (fun z => of_decide_eq_false hb (congrArg V.str z))])))
      (ev_ixt (K := K) (i := 1) (ev_var rfl) ht rfl) (rv_addS (show (who0N who).cps.size + sign.cps.size ≤ _ by omega))) (ev_ixt (K := K) (i := 2) (ev_var rfl) ht rfl) (rv_addS (show (who0N who ++ sign).cps.size + what.cps.size ≤ _ by omega))) rfl) fun H1 e1 => k H1 e1
end
end KL
set_option Elab.async false
set_option linter.all false
set_option maxRecDepth 100000
set_option maxHeartbeats 4000000
namespace KL
open PySem PySem.Spec PyProof.Rows L2 Evl KF
local macro_rules | `(tactic| walk_at "ev") => `(tactic| repeat' (first | exact ev_c | exact ev_var rfl | exact rv_I0 | refine' rv_I ?_ | refine' rv_eq ?_ | refine' rv_ne ?_ | refine' ev_op ?_ ?_ ?_ | exact ea_nil | refine' ea_cons ?_ ?_ | refine' et_test ?_ | refine' et_B ?_ | refine' et_not ?_ | refine' ev_notV ?_))

open PySem
/-! ### lists whose items are told by a predicate -/
def EvPL (te : TE) (σ : L2.St) (H : Hp) (n : Nat) (B : Nat → Hp → V → Prop) : Prop := ∀ H1, Ex H H1 → ∀ Q : VK, (∀ (p : Addr) (ys : List V) (H2 : Hp), H1 p = none → Ex H1 H2 → H2 p = some (.lst ys) → ys.length = n → (∀ i y, ys[i]? = some y → B i H2 y) → Q (.ref p) H2) → te σ H1 Q
section
variable {K : PySem.W.Frag} {σ : L2.St} {H : Hp} {te tl : TE} {a : Addr} {xs : List V} {j : Nat} {vs : List Nat} {B : Nat → Hp → V → Prop}
theorem pl_turn {H1 H' : Hp} {Dl : Addr} {i : Nat} {σ2 : L2.St} (st : ∀ i H H' x, B i H x → KeepT H H' → B i H' x) (hi : i < 50000)
    (p : H1 Dl = none ∧ Ex H1 H' ∧ ∃ ys : List V, ys.length = i ∧ H' Dl = some (.lst ys) ∧ ∀ k y, ys[k]? = some y → B k H' y) (he : ∀ Hx, Ex H' Hx → ∀ Q : VK, (∀ y H2, Ex Hx H2 → B i H2 y → Q y H2) → te σ2 Hx Q) :
    tYes σ2 H' fun b H3 => if b = true then te σ2 H3 fun y H4 => ∃ acc, H4 Dl = some (.lst acc) ∧ acc.length < sizeLine ∧ (H1 Dl = none ∧ Ex H1 (upd H4 Dl (.lst (acc ++ [y]))) ∧ ∃ ys : List V, ys.length = i + 1 ∧ (upd H4 Dl (.lst (acc ++ [y]))) Dl = some (.lst ys) ∧ ∀ k z, ys[k]? = some z → B k (upd H4 Dl (.lst (acc ++ [y]))) z) else (H1 Dl = none ∧ Ex H1 H3 ∧ ∃ ys : List V, ys.length = i + 1 ∧ H3 Dl = some (.lst ys) ∧ ∀ k y, ys[k]? = some y → B k H3 y) := by
  obtain ⟨p1, p2, ys, p3, p4, p5⟩ := p
  refine (et_yes : EvT tYes σ2 H' true) H' (Ex.refl _) _ fun H3 e3 => ?_
  show te σ2 H3 _
  refine he H3 e3 _ fun y H4 e4 by4 => ⟨ys, e4 _ _ (e3 _ _ p4), by rw [p3]; exact Nat.lt_of_lt_of_le hi (by decide), p1, Ex.mut (p2.trans (e3.trans e4)) p1, ys ++ [y], by rw [List.length_append, p3] <;> rfl, upd_same, fun k z hz => ?_⟩
  have kt : KeepT H4 (upd H4 Dl (.lst (ys ++ [y]))) := keep_lst (e4 _ _ (e3 _ _ p4))
  by_cases hk : k < ys.length
  · rw [List.getElem?_append_left hk] at hz
    exact st _ _ _ _ (st _ _ _ _ (p5 k z hz) (KeepT.of (e3.trans e4))) kt
  · have e1 : k = ys.length := by
      have := (List.getElem?_eq_some_iff.mp hz).1
      rw [List.length_append] at this
      have e1 : ([y] : List V).length = 1 := rfl
      omega
    subst e1
    rw [List.getElem?_append_right (Nat.le_refl _), Nat.sub_self] at hz
    obtain rfl : y = z := Option.some.inj hz
    rw [p3]
    exact st _ _ _ _ by4 kt
theorem pl_lst (st : ∀ i H H' x, B i H x → KeepT H H' → B i H' x) (h : Ev tl σ H (.ref a)) (hx : H a = some (.lst xs)) (hz : xs.length ≤ 40000) (hw : ∀ x, wipe ((wipe σ vs).set j (some x)) vs = wipe σ vs)
    (he : ∀ (i : Nat) (x : V) H1, Ex H H1 → xs[i]? = some x → ∀ Q : VK, (∀ y H2, Ex H1 H2 → B i H2 y → Q y H2) → te ((wipe σ vs).set j (some x)) H1 Q) : EvPL (tLc (iList K tl) (gName j) tYes te vs) σ H xs.length B := fun H0 e Q q => h H0 e _ fun H1 e1 => ⟨a, rfl, ⟨xs, sq_of ((e.trans e1) _ _ hx)⟩, fun Dl hD =>
  lc_list (xs := xs) (fun i H' => H1 Dl = none ∧ Ex H1 H' ∧ ∃ ys : List V, ys.length = i ∧ H' Dl = some (.lst ys) ∧ ∀ k y, ys[k]? = some y → B k H' y) ⟨hD, Ex.new hD, [], rfl, upd_same, fun k y z => nomatch z⟩ (fun i H' _ p => sq_of (((e.trans e1).trans p.2.1) _ _ hx)) (fun i x H' hi p => ⟨hw x, pl_turn st (by have := (List.getElem?_eq_some_iff.mp hi).1; omega) p fun Hx ex => he i x Hx ((e.trans e1).trans (p.2.1.trans ex)) hi⟩)
    (fun H' ⟨p1, p2, ys, p3, p4, p5⟩ => q Dl ys H' (fresh_back e1 p1) (e1.trans p2) p4 p3 p5)⟩
theorem pl_tup (st : ∀ i H H' x, B i H x → KeepT H H' → B i H' x) (h : Ev tl σ H (.ref a)) (hx : H a = some (.tup xs)) (hz : xs.length ≤ 40000) (hw : ∀ x, wipe ((wipe σ vs).set j (some x)) vs = wipe σ vs)
    (he : ∀ (i : Nat) (x : V) H1, Ex H H1 → xs[i]? = some x → ∀ Q : VK, (∀ y H2, Ex H1 H2 → B i H2 y → Q y H2) → te ((wipe σ vs).set j (some x)) H1 Q) : EvPL (tLc (iTup K tl) (gName j) tYes te vs) σ H xs.length B := fun H0 e Q q => h H0 e _ fun H1 e1 => ⟨a, rfl, ⟨xs, st_of ((e.trans e1) _ _ hx)⟩, fun Dl hD =>
  lc_tup (xs := xs) (fun i H' => H1 Dl = none ∧ Ex H1 H' ∧ ∃ ys : List V, ys.length = i ∧ H' Dl = some (.lst ys) ∧ ∀ k y, ys[k]? = some y → B k H' y) ⟨hD, Ex.new hD, [], rfl, upd_same, fun k y z => nomatch z⟩ (fun i H' _ p => st_of (((e.trans e1).trans p.2.1) _ _ hx)) (fun i x H' hi p => ⟨hw x, pl_turn st (by have := (List.getElem?_eq_some_iff.mp hi).1; omega) p fun Hx ex => he i x Hx ((e.trans e1).trans (p.2.1.trans ex)) hi⟩)
    (fun H' ⟨p1, p2, ys, p3, p4, p5⟩ => q Dl ys H' (fresh_back e1 p1) (e1.trans p2) p4 p3 p5)⟩
end
/-! ### a right clause made -/
def EvC (a : Ads) (te : TE) (σ : L2.St) (H : Hp) (who sign what : Str) : Prop := ∀ H1, Ex H H1 → ∀ Q : VK, (∀ b H2, H1 b = none → Ex H1 H2 → ClauseAt a H2 b who sign what → Q (.ref b) H2) → te σ H1 Q
section
variable {K : PySem.W.Frag} {a : Ads} {σ : L2.St} {H : Hp} {ta : TA} {te : TE} {x : V} {Q : VK} {who sign what s : Str} {E : XK}
theorem anyS (h : s.cps.size ≤ 1000) : AnyE H (.str s) := .inl ⟨s, rfl, h⟩
theorem who_self (h : who ∈ allWho) : whoOf (.str who) = some who := by
  rw [whoOf_str]
  by_cases e : who = "a"
  · rw [e] at h
    exact absurd h (by decide +kernel)
  · rw [if_neg e, if_pos h]
theorem pok_due {x : V} (hw : whoOf x = some who) (hs : sign ∈ allSign) (ht : what ∈ allw) : dueP x (.str sign) (.str what) = none := due_none hw (decide_eq_true ⟨sign, hs, rfl⟩) (decide_eq_true ⟨what, ht, rfl⟩)
theorem ec_new {who0 : Str} (h : EvA ta σ H [.str who0, .str sign, .str what]) (hw : whoOf (.str who0) = some who) (hz : who0.cps.size ≤ 1000) (ok : POk who sign what) : EvC a (tMake a.f_Clause (spClauseA a) [] E ta) σ H who sign what := fun H1 e Q q =>
  h H1 e _ fun H2 e2 b db hb hdb hne => by
    have hb2 : upd H2 db (.own b) b = none := by rw [upd_ne (Ne.symm hne)]; exact hb
    have en : Ex H2 (upd (upd H2 db (.own b)) b (.ins a.f_Clause db [])) := (Ex.new hdb).trans (Ex.new hb2)
    have z2 := sizes.2.1 sign ok.sign
    have z3 := sizes.2.2 what ok.what
    refine ⟨b, db, _, _, _, rfl, anyS hz, anyS (by omega), anyS (by omega), upd_same, fun who' sign' what' H5 hw' es ew _ ex cl => ⟨rfl, ?_⟩, fun n hn => ?_⟩
    · rw [hw] at hw'
      cases hw'
      cases es
      cases ew
      exact q b H5 (fresh_back e2 hb) (e2.trans fun c o hc => ex _ _ (en _ _ hc) (ne_of_none hc hb)) cl
    · rw [pok_due hw ok.sign ok.what] at hn
      cases hn
end
theorem txt_facts : ∀ who ∈ allWho, ∀ sign ∈ allSign, ∀ what ∈ allw, pieces (clTxt who sign what) = some (who0N who, sign, what) ∧ pieces (⟨who.cps ++ sign.cps ++ what.cps⟩ : Str) = some (who, sign, what) ∧ (clTxt who sign what).cps.size ≤ 8 := by decide +kernel
theorem who0_of : ∀ who ∈ allWho, whoOf (.str (who0N who)) = some who := by decide +kernel
/-! ### told clauses, made and shown -/
def Told3 (H : Hp) (y : V) (c : Cl) : Prop := ∃ t, y = .ref t ∧ H t = some (.tup [.str c.1, .str c.2.1, .str c.2.2])
theorem Told3.kt {H H' : Hp} {y : V} {c : Cl} (h : Told3 H y c) (e : KeepT H H') : Told3 H' y c := let ⟨t, e1, h1⟩ := h; ⟨t, e1, e.1 _ _ h1⟩
def ToldL (H : Hp) (l : Addr) (cs : List Cl) : Prop := ∃ ys : List V, H l = some (.lst ys) ∧ ys.length = cs.length ∧ ∀ (i : Nat) (y : V) (c : Cl), ys[i]? = some y → cs[i]? = some c → Told3 H y c
theorem ToldL.mono {H H' : Hp} {l : Addr} {cs : List Cl} (h : ToldL H l cs) (e : Ex H H') : ToldL H' l cs := let ⟨ys, h1, h2, h3⟩ := h; ⟨ys, e _ _ h1, h2, fun i y c a b => (h3 i y c a b).kt (KeepT.of e)⟩
def spChT : Sp := fun vs H Q _ => ∃ (l : Addr) (cs : List Cl), vs = [.ref l] ∧ ToldL H l cs ∧ (∀ c ∈ cs, clOk c) ∧ cs.length ≤ 10 ∧ ∀ H', Ex H H' → Q (.str (Txt.join "," (cs.map clText))) H'
def spMade (a : Ads) : Sp := fun vs H Q _ => ∃ (l : Addr) (cs : List Cl), vs = [.ref l] ∧ ToldL H l cs ∧ (∀ c ∈ cs, clOk c) ∧ cs.length ≤ 10 ∧ ∀ (p : Addr) (ps : List Addr) H', H p = none → Ex H H' → H' p = some (.lst (ps.map V.ref)) → ClsAt a H' ps cs → Q (.ref p) H'
def spShown (a : Ads) : Sp := fun vs H Q _ => ∃ (p : Addr) (ps : List Addr) (cs : List Cl), vs = [.ref p] ∧ ChX a H p ps cs ∧ cs.length ≤ 16 ∧ ∀ l H', H l = none → Ex H H' → ToldL H' l cs → Q (.ref l) H'
section
variable {P : Program} {w : World} {K : PySem.W.Frag} {mg : Str → Option Value} {base : Heap} {a : Ads}
theorem ok_change_text (T : Txt w K mg a) : FnOk P w K mg base CX0 3 a.f__law_change_text a.d__law_change_text ["_law_change"] spChT := by
  have G__law_text : FnOk P w K mg base CX0 1 _ _ _ _ := ok_text T
  refine T.fn__law_change_text.ok sc__law_change_text (fun vs H Q E h => ?_) (fun cdv A outer s H vs Q E hr h => ?_)
  · obtain ⟨_, _, rfl, _⟩ := h
    rfl
  · obtain ⟨l, cs, rfl, told, ok, hl, k⟩ := h
    have hrc : Room 1 _ := hr.mono (by decide)
    refine ⟨_, (pss_one (ps_ret (pe_join pe_str (pe_lc (own := [("_law_told", 1)]) (g := gName 1) rfl sc__law_change_text.nd (pi_list (pv 0)) (blkOk_by (own := [("_law_told", 1)]) (N := n__law_change_text) (sc := defScope s__law_change_text) (by decide +kernel)) (fun _ _ _ _ _ => (pg_name (i := 1) sc__law_change_text.nd rfl (Or.inl rfl))) (fun _ _ _ _ _ => pts_nil) (fun _ _ _ _ _ => (pe_call G__law_text hrc rfl T.mg__law_text T.fn__law_text.kp (bd__law_text T) .nil pass0 (pa_cons (pv 1) pa_nil))))))), ?_⟩
    obtain ⟨ys, h1, h2, h3⟩ := told
    refine s_ret (v := .str (Txt.join "," (cs.map clText))) (ev_join (ys := cs.map clText) ev_c (el_is (el_lcL (K := K) (xs := ys) (fun _ => true) (fun i => V.str (((cs.map clText)[i]?).getD "")) (ev_var rfl) (sq_of h1) (by omega) (fun _ => rfl) (fun _ _ _ _ _ => et_yes) (fun i x H1 e1 hx _ => ?_)) ?_) ?_) fun H1 e1 => k H1 e1
    · have hi : i < cs.length := by rw [← h2]; exact (List.getElem?_eq_some_iff.mp hx).1
      have hci : cs[i]? = some cs[i] := by simp [hi]
      obtain ⟨t, rfl, ht⟩ := h3 i x _ hx hci
      refine ev_is (ev_call (vs := [.ref t]) (ea_cons (ev_var rfl) ea_nil) fun H2 e2 Q2 q2 E2 => ⟨t, _, _, _, rfl, e2 _ _ (e1 _ _ ht), ok _ (List.mem_of_getElem? hci), q2⟩) ?_
      rw [List.getElem?_map, hci]
      rfl
    · rw [given_all, h2]
      apply List.ext_getElem
      · simp
      · intro i a1 a2
        have hi : i < cs.length := by simpa using a1
        simp [hi]
    · have := texts_sum cs ok
      have e1 : Str.length "," = 1 := by decide +kernel
      rw [e1, List.length_map]
      omega
theorem ok_made (T : Txt w K mg a) : FnOk P w K mg base CX0 8 a.f__law_made a.d__law_made ["_law_change"] (spMade a) := by
  have G_Clause_init : FnOk P w K mg base (L2.CX P w) 5 _ _ _ _ := ok_Clause_init T
  refine T.fn__law_made.ok sc__law_made (fun vs H Q E h => ?_) (fun cdv A outer s H vs Q E hr h => ?_)
  · obtain ⟨_, _, rfl, _⟩ := h
    rfl
  · obtain ⟨l, cs, rfl, ⟨ys, h1, h2, h3⟩, ok, hl, k⟩ := h
    have hrm : Room (5 + 1) _ := hr.mono (by decide)
    refine ⟨_, (pss_one (ps_ret (pe_lc (own := [("_law_told", 1)]) (g := gName 1) rfl sc__law_made.nd (pi_list (pv 0)) (blkOk_by (own := [("_law_told", 1)]) (N := n__law_made) (sc := defScope s__law_made) (by decide +kernel)) (fun _ _ _ _ _ => (pg_name (i := 1) sc__law_made.nd rfl (Or.inl rfl))) (fun _ _ _ _ _ => pts_nil) (fun _ _ _ _ _ => (pe_make T.mk_Clause G_Clause_init hrm rfl T.mg_Clause (bd_ClauseD_initD T) .nil passL (pa_cons (pe_ix (r := rIxT K) ix_tup (pv 1) pe_int (fun _ _ => rfl)) (pa_cons (pe_ix (r := rIxT K) ix_tup (pv 1) pe_int (fun _ _ => rfl)) (pa_cons (pe_ix (r := rIxT K) ix_tup (pv 1) pe_int (fun _ _ => rfl)) pa_nil)))))))), ?_⟩
    refine ret_raw (pl_lst (K := K) (xs := ys) (B := fun i H y => ∀ c, cs[i]? = some c → ∃ p, y = .ref p ∧ ClauseAt a H p c.1 c.2.1 c.2.2) (fun i H H' x b e c hc => let ⟨p, e1, cl⟩ := b c hc; ⟨p, e1, cl.kt e⟩) (ev_var rfl) h1 (by omega) (fun _ => rfl) (fun i x H1 e1 hx Q' q' => ?_) H (Ex.refl H) _ fun p zs H2 hp e2 h4 lz all => ?_)
    · have hi : i < cs.length := by rw [← h2]; exact (List.getElem?_eq_some_iff.mp hx).1
      have hci : cs[i]? = some cs[i] := by simp [hi]
      obtain ⟨t, rfl, ht⟩ := h3 i x _ hx hci
      have ht := e1 _ _ ht
      have okc := ok _ (List.mem_of_getElem? hci)
      have z1 := (sizes.1 _ okc.who).1
      exact ec_new (ea_cons (ev_ixt (K := K) (i := 0) (ev_var rfl) ht rfl) (ea_cons (ev_ixt (K := K) (i := 1) (ev_var rfl) ht rfl) (ea_cons (ev_ixt (K := K) (i := 2) (ev_var rfl) ht rfl) ea_nil))) (who_self okc.who) (by omega) okc H1 (Ex.refl _) _ fun b H2 _ e2 cl => q' _ H2 e2 fun c hc => by
        rw [hci] at hc
        obtain rfl := Option.some.inj hc
        exact ⟨b, rfl, cl⟩
    · obtain ⟨ps, rfl, cls⟩ := fits_all (a := a) (H := H2) (xs := zs) (ds := cs) ⟨by rw [lz, h2, List.length_map], fun i x c hx hc => by
        rw [List.getElem?_map] at hc
        obtain ⟨d, hd, rfl⟩ := Option.map_eq_some_iff.mp hc
        exact all i x hx d hd⟩
      exact k p ps H2 hp e2 h4 cls
theorem ok_shown (T : Txt w K mg a) : FnOk P w K mg base CX0 4 a.f__law_shown a.d__law_shown ["_law_change"] (spShown a) := by
  have G_Clause_who : FnOk P w K mg base CX0 2 _ _ _ _ := (ok_Clause_who T).mono (by decide)
  have G_Clause_sign : FnOk P w K mg base CX0 2 _ _ _ _ := (ok_Clause_sign T).mono (by decide)
  have G_Clause_what : FnOk P w K mg base CX0 2 _ _ _ _ := (ok_Clause_what T).mono (by decide)
  have G_Change_clauses : FnOk P w K mg base CX0 2 _ _ _ _ := (ok_Change_clauses T).mono (by decide)
  refine T.fn__law_shown.ok sc__law_shown (fun vs H Q E h => ?_) (fun cdv A outer s H vs Q E hr h => ?_)
  · obtain ⟨_, _, _, rfl, _⟩ := h
    rfl
  · obtain ⟨p, ps, cs, rfl, ⟨dx, ct, tt, hp, seq, cls⟩, hl, k⟩ := h
    have hrm : Room (2 + 1) _ := hr
    refine ⟨_, (pss_one (ps_ret (pe_lc (own := [("_law_clause_here", 1)]) (g := gName 1) rfl sc__law_shown.nd (pi_tupE (K := K) (pe_prop (pv 0) T.c_Change T.p_Change_clauses (G_Change_clauses) hrm (bd_Change_clauses T) .nil pass0 rfl)) (blkOk_by (own := [("_law_clause_here", 1)]) (N := n__law_shown) (sc := defScope s__law_shown) (by decide +kernel)) (fun _ _ _ _ _ => (pg_name (i := 1) sc__law_shown.nd rfl (Or.inl rfl))) (fun _ _ _ _ _ => pts_nil) (fun _ _ _ _ _ => (pe_tup (pa_cons (pe_prop (pv 1) T.c_Clause T.p_Clause_who (G_Clause_who) hrm (bd_Clause_who T) .nil pass0 rfl) (pa_cons (pe_prop (pv 1) T.c_Clause T.p_Clause_sign (G_Clause_sign) hrm (bd_Clause_sign T) .nil pass0 rfl) (pa_cons (pe_prop (pv 1) T.c_Clause T.p_Clause_what (G_Clause_what) hrm (bd_Clause_what T) .nil pass0 rfl) pa_nil)))))))), ?_⟩
    refine ret_raw (pl_tup (K := K) (xs := ps.map V.ref) (B := fun i H y => ∀ c, cs[i]? = some c → Told3 H y c) (fun i H H' x b e c hc => (b c hc).kt e) (ev_prop (ev_var rfl) hp (spv_get hp (chFs_at ct tt))) seq (by rw [List.length_map, cls.1]; omega) (fun _ => rfl) (fun i x H1 e1 hx Q' q' => ?_) H (Ex.refl H) _ fun l zs H2 hl2 e2 h4 lz all => ?_)
    · rw [List.getElem?_map] at hx
      obtain ⟨q, hq, rfl⟩ := Option.map_eq_some_iff.mp hx
      have hi : i < cs.length := by rw [← cls.1]; exact (List.getElem?_eq_some_iff.mp hq).1
      have hci : cs[i]? = some cs[i] := by simp [hi]
      obtain ⟨dq, tq, hoq, _⟩ := (cls.2 i q cs[i] hq hci).mono e1
      exact (eu_tup (vs := [.str cs[i].1, .str cs[i].2.1, .str cs[i].2.2]) (ea_cons (ev_prop (ev_var rfl) hoq (spv_get hoq (fs_who _ _ _ _))) (ea_cons (ev_prop (ev_var rfl) hoq (spv_get hoq (fs_sign _ _ _ _))) (ea_cons (ev_prop (ev_var rfl) hoq (spv_get hoq (fs_what _ _ _ _))) ea_nil))) (by show 3 ≤ 100000; decide)) H1 (Ex.refl _) _ fun t H2 _ e2 h2 => q' _ H2 e2 fun c hc => by
        rw [hci] at hc
        obtain rfl := Option.some.inj hc
        exact ⟨t, rfl, h2⟩
    · exact k l H2 hl2 e2 ⟨zs, h4, by rw [lz, List.length_map, cls.1], fun i y c hy hc => all i y hy c hc⟩
end
end KL
set_option Elab.async false
set_option linter.all false
set_option maxRecDepth 100000
set_option maxHeartbeats 4000000
namespace KL
open PySem PySem.Spec PyProof.Rows L2 Evl KF
local macro_rules | `(tactic| walk_at "ev") => `(tactic| repeat' (first | exact ev_c | exact ev_var rfl | exact rv_I0 | refine' rv_I ?_ | refine' rv_eq ?_ | refine' rv_ne ?_ | refine' ev_op ?_ ?_ ?_ | exact ea_nil | refine' ea_cons ?_ ?_ | refine' et_test ?_ | refine' et_B ?_ | refine' et_not ?_ | refine' ev_notV ?_))

open PySem
/-! ### Change(..) of no to ten values -/
section
variable {X : Cx} {CX : CXT} {k : Nat} {f C : Addr} {sp : Sp} {E : XK} {x : Str} {p pos : Pos}
theorem pe_makeR0 (M : Mk X.K C f) (F : FnR X.prog X.w X.K X.mg X.base CX k f sp) (room : Room (k + 1) X.A) (hg : Gl X x) (hm : X.mg x = some (.ref C)) (hx : Passes CX X E) (hd : (x == ("__debug__" : Str)) = false := by decide) : PE X (.Call (.Name x p) [] [] pos) (StX.tMakeR C sp E tNil) :=
  ⟨fun pn s σ H Q I told => wpAny_Call_Name_kw (ld_glob I hg hm (PySem.W.callWith_K0 I.kIn M.kp (StX.run_makeR (us := []) M F room hx I .nil told)) hd)⟩
end
abbrev spChR (a : Ads) : Sp := fun vs H Q E => ∃ v rest, vs = v :: rest ∧ rest.length ≤ 100 ∧ ∀ p, H p = none → spChangeA a [v, .ref p] (upd H p (.tup rest)) Q E
def MakeN (a : Ads) (xs : List V) (cs : List (Option Cl)) (H : Hp) (Q : VK) (E : XK) : Prop := (∀ (ds : List Cl) (ps : List Addr) x H', cs = ds.map some → xs = ps.map V.ref → dueC cs = none → H x = none → Ex H H' → ChX a H' x ps ds → Q (.ref x) H') ∧ (∀ n, dueC cs = some (some n) → Told a E H n) ∧ (dueC cs = some none → ToldM a E H)
theorem MakeN.back {a : Ads} {xs : List V} {cs : List (Option Cl)} {H H1 : Hp} {Q : VK} {E : XK} (h : MakeN a xs cs H Q E) (e : Ex H H1) : MakeN a xs cs H1 Q E := ⟨fun ds ps x H' h1 h2 h3 h4 h5 h6 => h.1 ds ps x H' h1 h2 h3 (fresh_back e h4) (e.trans h5) h6, fun n hn => (h.2.1 n hn).back e, fun hn => (h.2.2 hn).back e⟩
theorem mk_change {a : Ads} {t : TA} {σ : L2.St} {H : Hp} {xs : List V} {cs : List (Option Cl)} {Q : VK} {E : XK} (h : EvA t σ H xs) (hl : xs.length ≤ 100) (ft : Fits a H xs cs) (mk : MakeN a xs cs H Q E) : StX.tMakeR a.f_Change (spChR a) E t σ H Q :=
  h H (Ex.refl _) _ fun H1 e1 x dx hx hdx hne => ⟨.ref x, xs, rfl, hl, fun ct hct => by
    have eN : Ex H1 (upd (upd (upd H1 dx (.own x)) x (.ins a.f_Change dx [])) ct (.tup xs)) := fun b o hb => by
      have bx := ne_of_none hb hx
      have bd := ne_of_none hb hdx
      have bc : b ≠ ct := fun z => by
        rw [z] at bx bd hb
        rw [upd_ne bx, upd_ne bd, hb] at hct
        cases hct
      rw [upd_ne bc, upd_ne bx, upd_ne bd]
      exact hb
    have xct : x ≠ ct := fun z => by rw [← z, upd_same] at hct; cases hct
    exact ⟨x, dx, ct, xs, cs, rfl, upd_same, hl, ft.mono (e1.trans eN), by rw [upd_ne xct, upd_same], fun ds ps H9 eq exs dn b9 ch => ⟨rfl, mk.1 ds ps x H9 eq exs dn (fresh_back e1 hx) (e1.trans fun b o hb => b9 b o (eN b o hb) (ne_of_none hb hx)) ch⟩, fun n hn => (mk.2.1 n hn).back (e1.trans eN), fun hn => (mk.2.2 hn).back (e1.trans eN)⟩⟩
def spCallA (a : Ads) : Sp := fun vs H Q E => ∃ (l : Addr) (xs : List V) (cs : List (Option Cl)), vs = [.ref l] ∧ H l = some (.lst xs) ∧ xs.length ≤ 10 ∧ Fits a H xs cs ∧ MakeN a xs cs H Q E
section
variable {P : Program} {w : World} {K : PySem.W.Frag} {mg : Str → Option Value} {base : Heap} {a : Ads}
theorem ok_call (T : Txt w K mg a) : FnOk P w K mg base (L2.CX P w) 8 a.f__law_call a.d__law_call ["_law_p"] (spCallA a) := by
  have G_Change_init : FnR P w K mg base (L2.CX P w) 6 _ (spChR a) := (ok_Change_init T).mono (by decide)
  refine T.fn__law_call.okX sc__law_call (fun vs H Q E h => ?_) (fun cdv A outer s H vs Q E hr h => ?_)
  · obtain ⟨_, _, _, rfl, _⟩ := h
    rfl
  · obtain ⟨l, xs, cs, rfl, h0, hl, ft0, mk0⟩ := h
    have hrm : Room (6 + 1) _ := hr
    refine ⟨_, (pss_cons (ps_if (pt_cmpR op_eq (pe_callB call_len_seq (by rfl) T.b_len PySem.boot_len (pa_cons (pv 0) pa_nil)) pe_int (nomark _)) (pss_one (ps_ret (pe_makeR0 T.mk_Change G_Change_init hrm rfl T.mg_Change (passes_call (takes_of rfl rfl rfl rfl) fun _ _ _ _ h => h)))) pss_nil)
    (pss_cons (ps_if (pt_cmpR op_eq (pe_callB call_len_seq (by rfl) T.b_len PySem.boot_len (pa_cons (pv 0) pa_nil)) pe_int (nomark _)) (pss_one (ps_ret (StX.pe_makeR T.mk_Change G_Change_init hrm rfl T.mg_Change (passes_call (takes_of rfl rfl rfl rfl) fun _ _ _ _ h => h) (pa_cons (pe_ix (r := rIxL K) ix_list (pv 0) pe_int (fun _ _ => rfl)) pa_nil)))) pss_nil)
    (pss_cons (ps_if (pt_cmpR op_eq (pe_callB call_len_seq (by rfl) T.b_len PySem.boot_len (pa_cons (pv 0) pa_nil)) pe_int (nomark _)) (pss_one (ps_ret (StX.pe_makeR T.mk_Change G_Change_init hrm rfl T.mg_Change (passes_call (takes_of rfl rfl rfl rfl) fun _ _ _ _ h => h) (pa_cons (pe_ix (r := rIxL K) ix_list (pv 0) pe_int (fun _ _ => rfl)) (pa_cons (pe_ix (r := rIxL K) ix_list (pv 0) pe_int (fun _ _ => rfl)) pa_nil))))) pss_nil)
    (pss_cons (ps_if (pt_cmpR op_eq (pe_callB call_len_seq (by rfl) T.b_len PySem.boot_len (pa_cons (pv 0) pa_nil)) pe_int (nomark _)) (pss_one (ps_ret (StX.pe_makeR T.mk_Change G_Change_init hrm rfl T.mg_Change (passes_call (takes_of rfl rfl rfl rfl) fun _ _ _ _ h => h) (pa_cons (pe_ix (r := rIxL K) ix_list (pv 0) pe_int (fun _ _ => rfl)) (pa_cons (pe_ix (r := rIxL K) ix_list (pv 0) pe_int (fun _ _ => rfl)) (pa_cons (pe_ix (r := rIxL K) ix_list (pv 0) pe_int (fun _ _ => rfl)) pa_nil)))))) pss_nil)
    (pss_cons (ps_if (pt_cmpR op_eq (pe_callB call_len_seq (by rfl) T.b_len PySem.boot_len (pa_cons (pv 0) pa_nil)) pe_int (nomark _)) (pss_one (ps_ret (StX.pe_makeR T.mk_Change G_Change_init hrm rfl T.mg_Change (passes_call (takes_of rfl rfl rfl rfl) fun _ _ _ _ h => h) (pa_cons (pe_ix (r := rIxL K) ix_list (pv 0) pe_int (fun _ _ => rfl)) (pa_cons (pe_ix (r := rIxL K) ix_list (pv 0) pe_int (fun _ _ => rfl)) (pa_cons (pe_ix (r := rIxL K) ix_list (pv 0) pe_int (fun _ _ => rfl)) (pa_cons (pe_ix (r := rIxL K) ix_list (pv 0) pe_int (fun _ _ => rfl)) pa_nil))))))) pss_nil)
    (pss_cons (ps_if (pt_cmpR op_eq (pe_callB call_len_seq (by rfl) T.b_len PySem.boot_len (pa_cons (pv 0) pa_nil)) pe_int (nomark _)) (pss_one (ps_ret (StX.pe_makeR T.mk_Change G_Change_init hrm rfl T.mg_Change (passes_call (takes_of rfl rfl rfl rfl) fun _ _ _ _ h => h) (pa_cons (pe_ix (r := rIxL K) ix_list (pv 0) pe_int (fun _ _ => rfl)) (pa_cons (pe_ix (r := rIxL K) ix_list (pv 0) pe_int (fun _ _ => rfl)) (pa_cons (pe_ix (r := rIxL K) ix_list (pv 0) pe_int (fun _ _ => rfl)) (pa_cons (pe_ix (r := rIxL K) ix_list (pv 0) pe_int (fun _ _ => rfl)) (pa_cons (pe_ix (r := rIxL K) ix_list (pv 0) pe_int (fun _ _ => rfl)) pa_nil)))))))) pss_nil)
    (pss_cons (ps_if (pt_cmpR op_eq (pe_callB call_len_seq (by rfl) T.b_len PySem.boot_len (pa_cons (pv 0) pa_nil)) pe_int (nomark _)) (pss_one (ps_ret (StX.pe_makeR T.mk_Change G_Change_init hrm rfl T.mg_Change (passes_call (takes_of rfl rfl rfl rfl) fun _ _ _ _ h => h) (pa_cons (pe_ix (r := rIxL K) ix_list (pv 0) pe_int (fun _ _ => rfl)) (pa_cons (pe_ix (r := rIxL K) ix_list (pv 0) pe_int (fun _ _ => rfl)) (pa_cons (pe_ix (r := rIxL K) ix_list (pv 0) pe_int (fun _ _ => rfl)) (pa_cons (pe_ix (r := rIxL K) ix_list (pv 0) pe_int (fun _ _ => rfl)) (pa_cons (pe_ix (r := rIxL K) ix_list (pv 0) pe_int (fun _ _ => rfl)) (pa_cons (pe_ix (r := rIxL K) ix_list (pv 0) pe_int (fun _ _ => rfl)) pa_nil))))))))) pss_nil)
    (pss_cons (ps_if (pt_cmpR op_eq (pe_callB call_len_seq (by rfl) T.b_len PySem.boot_len (pa_cons (pv 0) pa_nil)) pe_int (nomark _)) (pss_one (ps_ret (StX.pe_makeR T.mk_Change G_Change_init hrm rfl T.mg_Change (passes_call (takes_of rfl rfl rfl rfl) fun _ _ _ _ h => h) (pa_cons (pe_ix (r := rIxL K) ix_list (pv 0) pe_int (fun _ _ => rfl)) (pa_cons (pe_ix (r := rIxL K) ix_list (pv 0) pe_int (fun _ _ => rfl)) (pa_cons (pe_ix (r := rIxL K) ix_list (pv 0) pe_int (fun _ _ => rfl)) (pa_cons (pe_ix (r := rIxL K) ix_list (pv 0) pe_int (fun _ _ => rfl)) (pa_cons (pe_ix (r := rIxL K) ix_list (pv 0) pe_int (fun _ _ => rfl)) (pa_cons (pe_ix (r := rIxL K) ix_list (pv 0) pe_int (fun _ _ => rfl)) (pa_cons (pe_ix (r := rIxL K) ix_list (pv 0) pe_int (fun _ _ => rfl)) pa_nil)))))))))) pss_nil)
    (pss_cons (ps_if (pt_cmpR op_eq (pe_callB call_len_seq (by rfl) T.b_len PySem.boot_len (pa_cons (pv 0) pa_nil)) pe_int (nomark _)) (pss_one (ps_ret (StX.pe_makeR T.mk_Change G_Change_init hrm rfl T.mg_Change (passes_call (takes_of rfl rfl rfl rfl) fun _ _ _ _ h => h) (pa_cons (pe_ix (r := rIxL K) ix_list (pv 0) pe_int (fun _ _ => rfl)) (pa_cons (pe_ix (r := rIxL K) ix_list (pv 0) pe_int (fun _ _ => rfl)) (pa_cons (pe_ix (r := rIxL K) ix_list (pv 0) pe_int (fun _ _ => rfl)) (pa_cons (pe_ix (r := rIxL K) ix_list (pv 0) pe_int (fun _ _ => rfl)) (pa_cons (pe_ix (r := rIxL K) ix_list (pv 0) pe_int (fun _ _ => rfl)) (pa_cons (pe_ix (r := rIxL K) ix_list (pv 0) pe_int (fun _ _ => rfl)) (pa_cons (pe_ix (r := rIxL K) ix_list (pv 0) pe_int (fun _ _ => rfl)) (pa_cons (pe_ix (r := rIxL K) ix_list (pv 0) pe_int (fun _ _ => rfl)) pa_nil))))))))))) pss_nil)
    (pss_cons (ps_if (pt_cmpR op_eq (pe_callB call_len_seq (by rfl) T.b_len PySem.boot_len (pa_cons (pv 0) pa_nil)) pe_int (nomark _)) (pss_one (ps_ret (StX.pe_makeR T.mk_Change G_Change_init hrm rfl T.mg_Change (passes_call (takes_of rfl rfl rfl rfl) fun _ _ _ _ h => h) (pa_cons (pe_ix (r := rIxL K) ix_list (pv 0) pe_int (fun _ _ => rfl)) (pa_cons (pe_ix (r := rIxL K) ix_list (pv 0) pe_int (fun _ _ => rfl)) (pa_cons (pe_ix (r := rIxL K) ix_list (pv 0) pe_int (fun _ _ => rfl)) (pa_cons (pe_ix (r := rIxL K) ix_list (pv 0) pe_int (fun _ _ => rfl)) (pa_cons (pe_ix (r := rIxL K) ix_list (pv 0) pe_int (fun _ _ => rfl)) (pa_cons (pe_ix (r := rIxL K) ix_list (pv 0) pe_int (fun _ _ => rfl)) (pa_cons (pe_ix (r := rIxL K) ix_list (pv 0) pe_int (fun _ _ => rfl)) (pa_cons (pe_ix (r := rIxL K) ix_list (pv 0) pe_int (fun _ _ => rfl)) (pa_cons (pe_ix (r := rIxL K) ix_list (pv 0) pe_int (fun _ _ => rfl)) pa_nil)))))))))))) pss_nil)
    (pss_one (ps_ret (StX.pe_makeR T.mk_Change G_Change_init hrm rfl T.mg_Change (passes_call (takes_of rfl rfl rfl rfl) fun _ _ _ _ h => h) (pa_cons (pe_ix (r := rIxL K) ix_list (pv 0) pe_int (fun _ _ => rfl)) (pa_cons (pe_ix (r := rIxL K) ix_list (pv 0) pe_int (fun _ _ => rfl)) (pa_cons (pe_ix (r := rIxL K) ix_list (pv 0) pe_int (fun _ _ => rfl)) (pa_cons (pe_ix (r := rIxL K) ix_list (pv 0) pe_int (fun _ _ => rfl)) (pa_cons (pe_ix (r := rIxL K) ix_list (pv 0) pe_int (fun _ _ => rfl)) (pa_cons (pe_ix (r := rIxL K) ix_list (pv 0) pe_int (fun _ _ => rfl)) (pa_cons (pe_ix (r := rIxL K) ix_list (pv 0) pe_int (fun _ _ => rfl)) (pa_cons (pe_ix (r := rIxL K) ix_list (pv 0) pe_int (fun _ _ => rfl)) (pa_cons (pe_ix (r := rIxL K) ix_list (pv 0) pe_int (fun _ _ => rfl)) (pa_cons (pe_ix (r := rIxL K) ix_list (pv 0) pe_int (fun _ _ => rfl)) pa_nil))))))))))))))))))))))), ?_⟩
    have e0 := Ex.refl H
    refine q_when (b := decide (xs.length = 0)) (et_is (et_test (ev_op (ev_lenS (K := K) (ev_var rfl) (sq_of (e0 _ _ h0))) ev_c (rv_eq rfl))) (decide_eq_decide.mpr ⟨fun z => by injection z with z; omega, fun z => by rw [z]; rfl⟩)) (fun hb H1 e => ?_) fun hb0 H1 e => ?_
    · have hx := of_decide_eq_true hb
      have hq := (e0.trans e) _ _ h0
      match xs, hx, hq, ft0, mk0 with
      | [], _, hq, ft0, mk0 => exact ret_raw (mk_change ea_nil (by show 0 ≤ 100; decide) (ft0.mono (e0.trans e)) (mk0.back (e0.trans e)))
    have e1 := e0.trans e
    refine q_when (b := decide (xs.length = 1)) (et_is (et_test (ev_op (ev_lenS (K := K) (ev_var rfl) (sq_of (e1 _ _ h0))) ev_c (rv_eq rfl))) (decide_eq_decide.mpr ⟨fun z => by injection z with z; omega, fun z => by rw [z]; rfl⟩)) (fun hb H2 e => ?_) fun hb1 H2 e => ?_
    · have hx := of_decide_eq_true hb
      have hq := (e1.trans e) _ _ h0
      match xs, hx, hq, ft0, mk0 with
      | [x0], _, hq, ft0, mk0 => exact ret_raw (mk_change (ea_cons (ev_ixl (K := K) (i := 0) (ev_var rfl) hq rfl) ea_nil) (by show 1 ≤ 100; decide) (ft0.mono (e1.trans e)) (mk0.back (e1.trans e)))
    have e2 := e1.trans e
    refine q_when (b := decide (xs.length = 2)) (et_is (et_test (ev_op (ev_lenS (K := K) (ev_var rfl) (sq_of (e2 _ _ h0))) ev_c (rv_eq rfl))) (decide_eq_decide.mpr ⟨fun z => by injection z with z; omega, fun z => by rw [z]; rfl⟩)) (fun hb H3 e => ?_) fun hb2 H3 e => ?_
    · have hx := of_decide_eq_true hb
      have hq := (e2.trans e) _ _ h0
      match xs, hx, hq, ft0, mk0 with
      | [x0, x1], _, hq, ft0, mk0 => exact ret_raw (mk_change (ea_cons (ev_ixl (K := K) (i := 0) (ev_var rfl) hq rfl) (ea_cons (ev_ixl (K := K) (i := 1) (ev_var rfl) hq rfl) ea_nil)) (by show 2 ≤ 100; decide) (ft0.mono (e2.trans e)) (mk0.back (e2.trans e)))
    have e3 := e2.trans e
    refine q_when (b := decide (xs.length = 3)) (et_is (et_test (ev_op (ev_lenS (K := K) (ev_var rfl) (sq_of (e3 _ _ h0))) ev_c (rv_eq rfl))) (decide_eq_decide.mpr ⟨fun z => by injection z with z; omega, fun z => by rw [z]; rfl⟩)) (fun hb H4 e => ?_) fun hb3 H4 e => ?_
    · have hx := of_decide_eq_true hb
      have hq := (e3.trans e) _ _ h0
      match xs, hx, hq, ft0, mk0 with
      | [x0, x1, x2], _, hq, ft0, mk0 => exact ret_raw (mk_change (ea_cons (ev_ixl (K := K) (i := 0) (ev_var rfl) hq rfl) (ea_cons (ev_ixl (K := K) (i := 1) (ev_var rfl) hq rfl) (ea_cons (ev_ixl (K := K) (i := 2) (ev_var rfl) hq rfl) ea_nil))) (by show 3 ≤ 100; decide) (ft0.mono (e3.trans e)) (mk0.back (e3.trans e)))
    have e4 := e3.trans e
    refine q_when (b := decide (xs.length = 4)) (et_is (et_test (ev_op (ev_lenS (K := K) (ev_var rfl) (sq_of (e4 _ _ h0))) ev_c (rv_eq rfl))) (decide_eq_decide.mpr ⟨fun z => by injection z with z; omega, fun z => by rw [z]; rfl⟩)) (fun hb H5 e => ?_) fun hb4 H5 e => ?_
    · have hx := of_decide_eq_true hb
      have hq := (e4.trans e) _ _ h0
      match xs, hx, hq, ft0, mk0 with
      | [x0, x1, x2, x3], _, hq, ft0, mk0 => exact ret_raw (mk_change (ea_cons (ev_ixl (K := K) (i := 0) (ev_var rfl) hq rfl) (ea_cons (ev_ixl (K := K) (i := 1) (ev_var rfl) hq rfl) (ea_cons (ev_ixl (K := K) (i := 2) (ev_var rfl) hq rfl) (ea_cons (ev_ixl (K := K) (i := 3) (ev_var rfl) hq rfl) ea_nil)))) (by show 4 ≤ 100; decide) (ft0.mono (e4.trans e)) (mk0.back (e4.trans e)))
    have e5 := e4.trans e
    refine q_when (b := decide (xs.length = 5)) (et_is (et_test (ev_op (ev_lenS (K := K) (ev_var rfl) (sq_of (e5 _ _ h0))) ev_c (rv_eq rfl))) (decide_eq_decide.mpr ⟨fun z => by injection z with z; omega, fun z => by rw [z]; rfl⟩)) (fun hb H6 e => ?_) fun hb5 H6 e => ?_
    · have hx := of_decide_eq_true hb
      have hq := (e5.trans e) _ _ h0
      match xs, hx, hq, ft0, mk0 with
      | [x0, x1, x2, x3, x4], _, hq, ft0, mk0 => exact ret_raw (mk_change (ea_cons (ev_ixl (K := K) (i := 0) (ev_var rfl) hq rfl) (ea_cons (ev_ixl (K := K) (i := 1) (ev_var rfl) hq rfl) (ea_cons (ev_ixl (K := K) (i := 2) (ev_var rfl) hq rfl) (ea_cons (ev_ixl (K := K) (i := 3) (ev_var rfl) hq rfl) (ea_cons (ev_ixl (K := K) (i := 4) (ev_var rfl) hq rfl) ea_nil))))) (by show 5 ≤ 100; decide) (ft0.mono (e5.trans e)) (mk0.back (e5.trans e)))
    have e6 := e5.trans e
    refine q_when (b := decide (xs.length = 6)) (et_is (et_test (ev_op (ev_lenS (K := K) (ev_var rfl) (sq_of (e6 _ _ h0))) ev_c (rv_eq rfl))) (decide_eq_decide.mpr ⟨fun z => by injection z with z; omega, fun z => by rw [z]; rfl⟩)) (fun hb H7 e => ?_) fun hb6 H7 e => ?_
    · have hx := of_decide_eq_true hb
      have hq := (e6.trans e) _ _ h0
      match xs, hx, hq, ft0, mk0 with
      | [x0, x1, x2, x3, x4, x5], _, hq, ft0, mk0 => exact ret_raw (mk_change (ea_cons (ev_ixl (K := K) (i := 0) (ev_var rfl) hq rfl) (ea_cons (ev_ixl (K := K) (i := 1) (ev_var rfl) hq rfl) (ea_cons (ev_ixl (K := K) (i := 2) (ev_var rfl) hq rfl) (ea_cons (ev_ixl (K := K) (i := 3) (ev_var rfl) hq rfl) (ea_cons (ev_ixl (K := K) (i := 4) (ev_var rfl) hq rfl) (ea_cons (ev_ixl (K := K) (i := 5) (ev_var rfl) hq rfl) ea_nil)))))) (by show 6 ≤ 100; decide) (ft0.mono (e6.trans e)) (mk0.back (e6.trans e)))
    have e7 := e6.trans e
    refine q_when (b := decide (xs.length = 7)) (et_is (et_test (ev_op (ev_lenS (K := K) (ev_var rfl) (sq_of (e7 _ _ h0))) ev_c (rv_eq rfl))) (decide_eq_decide.mpr ⟨fun z => by injection z with z; omega, fun z => by rw [z]; rfl⟩)) (fun hb H8 e => ?_) fun hb7 H8 e => ?_
    · have hx := of_decide_eq_true hb
      have hq := (e7.trans e) _ _ h0
      match xs, hx, hq, ft0, mk0 with
      | [x0, x1, x2, x3, x4, x5, x6], _, hq, ft0, mk0 => exact ret_raw (mk_change (ea_cons (ev_ixl (K := K) (i := 0) (ev_var rfl) hq rfl) (ea_cons (ev_ixl (K := K) (i := 1) (ev_var rfl) hq rfl) (ea_cons (ev_ixl (K := K) (i := 2) (ev_var rfl) hq rfl) (ea_cons (ev_ixl (K := K) (i := 3) (ev_var rfl) hq rfl) (ea_cons (ev_ixl (K := K) (i := 4) (ev_var rfl) hq rfl) (ea_cons (ev_ixl (K := K) (i := 5) (ev_var rfl) hq rfl) (ea_cons (ev_ixl (K := K) (i := 6) (ev_var rfl) hq rfl) ea_nil))))))) (by show 7 ≤ 100; decide) (ft0.mono (e7.trans e)) (mk0.back (e7.trans e)))
    have e8 := e7.trans e
    refine q_when (b := decide (xs.length = 8)) (et_is (et_test (ev_op (ev_lenS (K := K) (ev_var rfl) (sq_of (e8 _ _ h0))) ev_c (rv_eq rfl))) (decide_eq_decide.mpr ⟨fun z => by injection z with z; omega, fun z => by rw [z]; rfl⟩)) (fun hb H9 e => ?_) fun hb8 H9 e => ?_
    · have hx := of_decide_eq_true hb
      have hq := (e8.trans e) _ _ h0
      match xs, hx, hq, ft0, mk0 with
      | [x0, x1, x2, x3, x4, x5, x6, x7], _, hq, ft0, mk0 => exact ret_raw (mk_change (ea_cons (ev_ixl (K := K) (i := 0) (ev_var rfl) hq rfl) (ea_cons (ev_ixl (K := K) (i := 1) (ev_var rfl) hq rfl) (ea_cons (ev_ixl (K := K) (i := 2) (ev_var rfl) hq rfl) (ea_cons (ev_ixl (K := K) (i := 3) (ev_var rfl) hq rfl) (ea_cons (ev_ixl (K := K) (i := 4) (ev_var rfl) hq rfl) (ea_cons (ev_ixl (K := K) (i := 5) (ev_var rfl) hq rfl) (ea_cons (ev_ixl (K := K) (i := 6) (ev_var rfl) hq rfl) (ea_cons (ev_ixl (K := K) (i := 7) (ev_var rfl) hq rfl) ea_nil)))))))) (by show 8 ≤ 100; decide) (ft0.mono (e8.trans e)) (mk0.back (e8.trans e)))
    have e9 := e8.trans e
    refine q_when (b := decide (xs.length = 9)) (et_is (et_test (ev_op (ev_lenS (K := K) (ev_var rfl) (sq_of (e9 _ _ h0))) ev_c (rv_eq rfl))) (decide_eq_decide.mpr ⟨fun z => by injection z with z; omega, fun z => by rw [z]; rfl⟩)) (fun hb H10 e => ?_) fun hb9 H10 e => ?_
    · have hx := of_decide_eq_true hb
      have hq := (e9.trans e) _ _ h0
      match xs, hx, hq, ft0, mk0 with
      | [x0, x1, x2, x3, x4, x5, x6, x7, x8], _, hq, ft0, mk0 => exact ret_raw (mk_change (ea_cons (ev_ixl (K := K) (i := 0) (ev_var rfl) hq rfl) (ea_cons (ev_ixl (K := K) (i := 1) (ev_var rfl) hq rfl) (ea_cons (ev_ixl (K := K) (i := 2) (ev_var rfl) hq rfl) (ea_cons (ev_ixl (K := K) (i := 3) (ev_var rfl) hq rfl) (ea_cons (ev_ixl (K := K) (i := 4) (ev_var rfl) hq rfl) (ea_cons (ev_ixl (K := K) (i := 5) (ev_var rfl) hq rfl) (ea_cons (ev_ixl (K := K) (i := 6) (ev_var rfl) hq rfl) (ea_cons (ev_ixl (K := K) (i := 7) (ev_var rfl) hq rfl) (ea_cons (ev_ixl (K := K) (i := 8) (ev_var rfl) hq rfl) ea_nil))))))))) (by show 9 ≤ 100; decide) (ft0.mono (e9.trans e)) (mk0.back (e9.trans e)))
    have e10 := e9.trans e
    have hx : xs.length = 10 := by
      have b0 := of_decide_eq_false hb0
      have b1 := of_decide_eq_false hb1
      have b2 := of_decide_eq_false hb2
      have b3 := of_decide_eq_false hb3
      have b4 := of_decide_eq_false hb4
      have b5 := of_decide_eq_false hb5
      have b6 := of_decide_eq_false hb6
      have b7 := of_decide_eq_false hb7
      have b8 := of_decide_eq_false hb8
      have b9 := of_decide_eq_false hb9
      omega
    have hq := e10 _ _ h0
    match xs, hx, hq, ft0, mk0 with
    | [x0, x1, x2, x3, x4, x5, x6, x7, x8, x9], _, hq, ft0, mk0 => exact ret_raw (mk_change (ea_cons (ev_ixl (K := K) (i := 0) (ev_var rfl) hq rfl) (ea_cons (ev_ixl (K := K) (i := 1) (ev_var rfl) hq rfl) (ea_cons (ev_ixl (K := K) (i := 2) (ev_var rfl) hq rfl) (ea_cons (ev_ixl (K := K) (i := 3) (ev_var rfl) hq rfl) (ea_cons (ev_ixl (K := K) (i := 4) (ev_var rfl) hq rfl) (ea_cons (ev_ixl (K := K) (i := 5) (ev_var rfl) hq rfl) (ea_cons (ev_ixl (K := K) (i := 6) (ev_var rfl) hq rfl) (ea_cons (ev_ixl (K := K) (i := 7) (ev_var rfl) hq rfl) (ea_cons (ev_ixl (K := K) (i := 8) (ev_var rfl) hq rfl) (ea_cons (ev_ixl (K := K) (i := 9) (ev_var rfl) hq rfl) ea_nil)))))))))) (by show 10 ≤ 100; decide) (ft0.mono e10) (mk0.back e10))
end
end KL
set_option Elab.async false
set_option linter.all false
set_option maxRecDepth 100000
set_option maxHeartbeats 4000000
namespace KL
open PySem PySem.Spec PyProof.Rows L2 Evl KF
local macro_rules | `(tactic| walk_at "ev") => `(tactic| repeat' (first | exact ev_c | exact ev_var rfl | exact rv_I0 | refine' rv_I ?_ | refine' rv_eq ?_ | refine' rv_ne ?_ | refine' ev_op ?_ ?_ ?_ | exact ea_nil | refine' ea_cons ?_ ?_ | refine' et_test ?_ | refine' et_B ?_ | refine' et_not ?_ | refine' ev_notV ?_))

open PySem LamX KErr
abbrev qA : Str := "law" ++ ".<locals>." ++ "<lambda>"
abbrev qM : Str := "_law_made_right" ++ ".<locals>." ++ "<lambda>"
abbrev qJ : Str := "_law_joined_right" ++ ".<locals>." ++ "<lambda>"
abbrev tabsT (a : Ads) : List (Addr × Str) := [(a.P0, qA), (a.PM, qM), (a.PJ, qJ)]
theorem tabs_uA {w : World} {K : PySem.W.Frag} {mg : Str → Option Value} {a : Ads} (T : Txt w K mg a) : ∀ p ∈ tabsT a, p.1 = a.P0 → p.2 = qA := fun p m h => by
  simp only [List.mem_cons, List.not_mem_nil, or_false] at m
  rcases m with rfl | rfl | rfl
  · rfl
  · exact absurd h.symm T.ne_0M
  · exact absurd h.symm T.ne_0J
theorem tabs_uM {w : World} {K : PySem.W.Frag} {mg : Str → Option Value} {a : Ads} (T : Txt w K mg a) : ∀ p ∈ tabsT a, p.1 = a.PM → p.2 = qM := fun p m h => by
  simp only [List.mem_cons, List.not_mem_nil, or_false] at m
  rcases m with rfl | rfl | rfl
  · exact absurd h T.ne_0M
  · rfl
  · exact absurd h.symm T.ne_MJ
theorem tabs_uJ {w : World} {K : PySem.W.Frag} {mg : Str → Option Value} {a : Ads} (T : Txt w K mg a) : ∀ p ∈ tabsT a, p.1 = a.PJ → p.2 = qJ := fun p m h => by
  simp only [List.mem_cons, List.not_mem_nil, or_false] at m
  rcases m with rfl | rfl | rfl
  · exact absurd h T.ne_0J
  · exact absurd h T.ne_MJ
  · rfl
theorem tabs_keep {T : List (Addr × Str)} {H H' : Hp} (t : Tabs T H) (e : Ex H H') : Tabs T H' := LamX.Tabs.ext t e
theorem tabs_pen {T : List (Addr × Str)} {H H' : Hp} {p : Addr} {n : Nat} (t : Tabs T H) (hp : PenAt H p n) (e : ExB p H H') : Tabs T H' := fun q hq => by
  obtain ⟨ps, h1, tr, h2⟩ := t q hq
  obtain ⟨l, ns, at_, rest, hd, _⟩ := hp
  refine ⟨ps, e _ _ h1 (ne_of h1 hd fun z => nomatch z), tr, fun pos cv hc => ?_⟩
  obtain ⟨c, e1, e2⟩ := h2 pos cv hc
  exact ⟨c, e1, e _ _ e2 (ne_of e2 hd fun z => nomatch z)⟩
theorem tab_app {H : Hp} {T : List (Addr × Str)} {l : Addr} {xs ys : List V} (t : Tabs T H) (hl : H l = some (.lst xs)) : Tabs T (upd H l (.lst ys)) := fun q hq => by
  obtain ⟨ps, h1, tr, h2⟩ := t q hq
  refine ⟨ps, by rw [upd_ne (ne_of h1 hl fun z => nomatch z)]; exact h1, tr, fun pos cv hc => ?_⟩
  obtain ⟨c, e1, e2⟩ := h2 pos cv hc
  exact ⟨c, e1, by rw [upd_ne (ne_of e2 hl fun z => nomatch z)]; exact e2⟩
/-- all stays but the pen and the tables -/
def StP (p : Addr) (H H' : Hp) : Prop := ∀ b o, H b = some o → b ≠ p → (∀ ps, o ≠ .tbl ps) → H' b = some o
theorem StP.of {p : Addr} {H H' : Hp} (e : Ex H H') : StP p H H' := fun b o h _ _ => e b o h
theorem StP.ofB {p : Addr} {H H' : Hp} (e : ExB p H H') : StP p H H' := fun b o h n _ => e b o h n
theorem StP.ofN {p : Addr} {H H' : Hp} (e : ExtN H H') : StP p H H' := fun b o h _ t => e b o h t
theorem StP.trans {p : Addr} {H H1 H2 : Hp} (a : StP p H H1) (b : StP p H1 H2) : StP p H H2 := fun c o h n t => b c o (a c o h n t) n t
theorem StP.mut {p f : Addr} {H H' : Hp} {o : HO} (s : StP p H H') (hf : H f = none) : StP p H (upd H' f o) := fun b u hb ne nt => by
  rw [upd_ne (ne_of_none hb hf)]
  exact s b u hb ne nt
theorem PenL.keepN {H H' : Hp} {p l : Addr} {n : Nat} (h : PenL H p l n) (e : ExtN H H') : PenL H' p l n := let ⟨ns, a, r, h1, h2, q⟩ := h; ⟨ns, a, r, e _ _ h1 (fun _ z => nomatch z), e _ _ h2 (fun _ z => nomatch z), q⟩
/-! ### odd values under all that the law does -/
def AnyP (p : Addr) (H : Hp) (x : V) : Prop := (∃ s : Str, x = .str s ∧ s.cps.size ≤ 1000) ∨ ((x = .non ∨ (∃ b, x = .bl b) ∨ ∃ i, x = .int i) ∨ ∃ l, x = .ref l ∧ l ≠ p ∧ Box H l)
theorem AnyP.any {p : Addr} {H : Hp} {x : V} (h : AnyP p H x) : AnyE H x := h.imp id fun h => h.imp id fun ⟨l, e, _, b⟩ => ⟨l, e, b⟩
theorem AnyP.st {p : Addr} {H H' : Hp} {x : V} (h : AnyP p H x) (e : StP p H H') : AnyP p H' x := h.imp id fun h => h.imp id fun ⟨l, ex, n, b⟩ => ⟨l, ex, n, by
  rcases b with ⟨xs, b⟩ | ⟨xs, b⟩ | ⟨xs, b⟩
  · exact .inl ⟨xs, e _ _ b n fun _ z => nomatch z⟩
  · exact .inr (.inl ⟨xs, e _ _ b n fun _ z => nomatch z⟩)
  · exact .inr (.inr ⟨xs, e _ _ b n fun _ z => nomatch z⟩)⟩
def EvB (p : Addr) (te : TE) (σ : L2.St) (H : Hp) : Prop := ∀ H1, Ex H H1 → ∀ Q : VK, (∀ x H2, Ex H1 H2 → AnyP p H2 x → Q x H2) → te σ H1 Q
def EvBs (p : Addr) (ta : TA) (σ : L2.St) (H : Hp) (n : Nat) : Prop := ∀ H1, Ex H H1 → ∀ Q : List V → Hp → Prop, (∀ xs H2, Ex H1 H2 → xs.length = n → (∀ x ∈ xs, AnyP p H2 x) → Q xs H2) → ta σ H1 Q
section
variable {K : PySem.W.Frag} {σ : L2.St} {H : Hp} {te : TE} {ta : TA} {p : Addr} {n k m : Nat} {x : V} {i : Int} {b : Bool} {xs : List V} {D : Ends} {tz : TS}
theorem ebs_nil : EvBs p tNil σ H 0 := fun H1 _ Q q => q [] H1 (Ex.refl H1) rfl (fun _ z => nomatch z)
theorem ebs_cons (h : EvB p te σ H) (r : EvBs p ta σ H n) : EvBs p (tCons te ta) σ H (n + 1) := fun H1 e Q q =>
  h H1 e _ fun x H2 e2 bx => r H2 (e.trans e2) _ fun xs H3 e3 l all => q (x :: xs) H3 (e2.trans e3) (by rw [List.length_cons, l]) fun z hz => by
    rcases List.mem_cons.mp hz with rfl | hz
    · exact bx.st (StP.of e3)
    · exact all z hz
theorem eb_str {s : Str} (h : s.cps.size ≤ 1000) : EvB p (tC (.str s)) σ H := fun H1 e Q q => q _ H1 (Ex.refl _) (.inl ⟨s, rfl, h⟩)
theorem eb_non : EvB p (tC .non) σ H := fun H1 e Q q => q _ H1 (Ex.refl _) (.inr (.inl (.inl rfl)))
theorem eb_bl : EvB p (tC (.bl b)) σ H := fun H1 e Q q => q _ H1 (Ex.refl _) (.inr (.inl (.inr (.inl ⟨_, rfl⟩))))
theorem eb_int : EvB p (tC (.int i)) σ H := fun H1 e Q q => q _ H1 (Ex.refl _) (.inr (.inl (.inr (.inr ⟨_, rfl⟩))))
theorem eb_ol (hp : PenAt H p n) (h : EvL te σ H xs) : EvB p te σ H := fun H1 e Q q => h H1 e _ fun l H2 hl e2 h2 => q _ H2 e2 (.inr (.inr ⟨l, rfl, (hp.keep e).ne_new hl, .inl ⟨_, h2⟩⟩))
theorem eb_ou (hp : PenAt H p n) (h : EvU te σ H xs) : EvB p te σ H := fun H1 e Q q => h H1 e _ fun l H2 hl e2 h2 => q _ H2 e2 (.inr (.inr ⟨l, rfl, (hp.keep e).ne_new hl, .inr (.inl ⟨_, h2⟩)⟩))
theorem eb_od (hp : PenAt H p n) : EvB p tDNewK σ H := fun H1 e Q q l hl => q _ _ (Ex.new hl) (.inr (.inr ⟨l, rfl, (hp.keep e).ne_new hl, .inr (.inr ⟨_, upd_same⟩)⟩))
theorem q_asgBs {i : Nat} (h : EvBs p ta σ H k) (hk : k ≤ 1000) (q : ∀ l xs H', H l = none → xs.length = k → Ex H H' → H' l = some (.lst xs) → (∀ x ∈ xs, AnyP p H' x) → tz D (σ.set i (some (.ref l))) H') : tSeq (tAsg (tLst ta) (gName i)) tz D σ H :=
  h H (Ex.refl H) _ fun xs H1 e1 l all => ⟨sz_of (by omega), fun s hs => q s xs _ (fresh_back e1 hs) l (e1.trans (Ex.new hs)) upd_same fun x hx => (all x hx).st (StP.of (Ex.new hs))⟩
end
/-! ### what is heard -/
section
variable {K : PySem.W.Frag} {σ : L2.St} {H : Hp} {te tc : TE} {D a0 dd : Addr} {fs : List (Str × V)} {c v : V} {cv : Value} {b : Bool} {f : Str}
theorem ev_isE (hv : Ev te σ H (.ref a0)) (hc : Ev tc σ H c) (rel : ∀ u, RelV c u → u = cv) (hE : ErrAt H a0 D dd fs) (e : PySem.W.kitOne K (.ref D) cv = some b) : Ev (tCB (rIsE K D) (tCons te (tCons tc tNil))) σ H (.bl b) := fun H1 e1 Q q =>
  hv H1 e1 _ fun H2 e2 => hc H2 (e1.trans e2) _ fun H3 e3 => ⟨a0, dd, fs, c, cv, b, rfl, rel, hE.mono ((e1.trans e2).trans e3), e, q H3 (e2.trans e3)⟩
theorem ev_errF (hv : Ev te σ H (.ref a0)) (hE : ErrAt H a0 D dd fs) (l : fs.lookup f = some v) : Ev (tErrF D f te) σ H v := fun H1 e1 Q q => hv H1 e1 _ fun H2 e2 => ⟨a0, dd, fs, v, rfl, hE.mono (e1.trans e2), l, q H2 e2⟩
theorem if_rawB {t : TT} {t1 t2 : TE} {b : Bool} {Q : VK} (h : EvT t σ H b) (h1 : b = true → ∀ H1, Ex H H1 → t1 σ H1 Q) (h2 : b = false → ∀ H1, Ex H H1 → t2 σ H1 Q) : tIf t t1 t2 σ H Q := h H (Ex.refl H) _ fun H1 e1 => by
  cases b with
  | true => exact h1 rfl H1 e1
  | false => exact h2 rfl H1 e1
end
theorem pe_any {X : Cx} {e : Expr} {t1 t2 : TE} (h1 : PE X e t1) (h2 : PE X e t2) : PE X e (fun σ H Q => t1 σ H Q ∨ t2 σ H Q) := ⟨fun pins s σ H Q I h => h.elim (h1.run pins s σ H Q I) (h2.run pins s σ H Q I)⟩
theorem ev_orL {t1 t2 : TE} {σ : L2.St} {H : Hp} {x : V} (h : Ev t1 σ H x) : Ev (fun σ H Q => t1 σ H Q ∨ t2 σ H Q) σ H x := fun H1 e Q q => .inl (h H1 e Q q)
theorem ev_orR {t1 t2 : TE} {σ : L2.St} {H : Hp} {x : V} (h : Ev t2 σ H x) : Ev (fun σ H Q => t1 σ H Q ∨ t2 σ H Q) σ H x := fun H1 e Q q => .inr (h H1 e Q q)
/-- the errors that may come -/
def PartX (a : Ads) (Q : VK) : XK := fun cls d H' => (cls = .ref a.x_BadClause ∧ ∃ (dd : Addr) (n : Nat), d = some dd ∧ H' dd = some (.xd [(("at" : Str), .int (n : Nat))]) ∧ ∀ t H'', Ex H' H'' → H'' t = some (.tup [.str "clause", .int (n : Nat)]) → Q (.ref t) H'') ∨
  (cls = .ref a.x_TooMany ∧ ∃ (dd : Addr), d = some dd ∧ H' dd = some (.xd [(("most" : Str), .int 8)]) ∧ ∀ t H'', Ex H' H'' → H'' t = some (.tup [.str "many", .int 8]) → Q (.ref t) H'')
def THeard (a : Ads) : (XK → Hp → VK → Prop) → Hp → VK → Prop := fun tl H Q => ∀ Q' : VK, (∀ p ps cs H1, ChX a H1 p ps cs → (∀ l H2, H1 l = none → Ex H1 H2 → H2 l = some (.lst [.ref p]) → Q (.ref l) H2) → Q' (.ref p) H1) → tl (PartX a Q) H Q'
theorem heard_gives {X : Cx} {a : Ads} {q : Str} {cdv : Value} (T : Txt X.w X.K X.mg a) : GivesTo X n__law_heard "_law_heard" (defScope s__law_heard) a.f__law_heard cdv (defBody s__law_heard) "_law_ask" q (THeard a) := by
  intro f c' s H Q tl act hc h
  refine ⟨_, pss_cons (ps_set (i := 1) sc__law_heard.nd rfl (Or.inl rfl) pe_non) (pss_cons (ps_set (i := 2) sc__law_heard.nd rfl (Or.inl rfl) pe_non) (pss_cons (ps_try_keep (X := (cxOf C8.CX0 X.prog X.w X.K X.mg X.base n__law_heard "_law_heard" (defScope s__law_heard) a.f__law_heard cdv X.A X.stack s H C8.E0).nox) (c := .ref a.x_ModesError) (i := 3)
      (tb := fun W D σ H => ∃ Ech : XK, (∀ cls d σ' H', Ech cls d H' → σ'.length = 4 → W cls d σ' H') ∧ σ[0]? = some (some (.ref f)) ∧ H c' = some (CodeO c' q) ∧ tl Ech H fun x H1 => D.nx (σ.set 2 (some x)) H1)
      (ts := fun _ _ _ => tAsg (tVar 3) (gName 1))
      rfl rfl rfl sc__law_heard.nd rfl rfl ⟨rfl, by decide, .inl T.mg_ModesError⟩ (fun W pn xe tk _ => ?body) (fun a0 oe cls d pn hz hf => pss_one (ps_set (i := 1) sc__law_heard.nd rfl (Or.inl rfl) (pv 3)))) (pss_cons (ps_if (pt_cmpR op_isN (pv 1) pe_non (nomark _)) (pss_one (ps_ret (pe_lst (pa_cons (pv 2) pa_nil)))) pss_nil)
    (pss_cons (ps_if (PW.pt (pw_and (pt_val (pe_any (pe_callB (call_isE T.ec_BadClause (cl_of T.ec_BadClause)) (by rfl) T.b_isinstance PyProof.Rows.boot_isinstance (pa_cons (pv 1) (pa_cons (pe_glob (v := .ref a.x_TooMany) rfl T.mg_TooMany rfl) pa_nil))) (pe_callB (call_isE T.ec_TooMany (cl_of T.ec_TooMany)) (by rfl) T.b_isinstance PyProof.Rows.boot_isinstance (pa_cons (pv 1) (pa_cons (pe_glob (v := .ref a.x_TooMany) rfl T.mg_TooMany rfl) pa_nil))))) (pw_and1 (pt_val (pe_callB (call_isE T.ec_TooMany (cl_of T.ec_TooMany)) (by rfl) T.b_isinstance PyProof.Rows.boot_isinstance (pa_cons (pv 1) (pa_cons (pe_glob (v := .ref a.x_NoWay) rfl T.mg_NoWay rfl) pa_nil))))))) (pss_one (ps_ret (pe_tup (pa_cons pe_str (pa_cons (pe_errF T.ec_TooMany T.np_TooMany (pv 1)) pa_nil))))) pss_nil)
    (pss_one (ps_ret (pe_ifExp (pt_val (pe_any (pe_callB (call_isE T.ec_BadClause (cl_of T.ec_BadClause)) (by rfl) T.b_isinstance PyProof.Rows.boot_isinstance (pa_cons (pv 1) (pa_cons (pe_glob (v := .ref a.x_BadClause) rfl T.mg_BadClause rfl) pa_nil))) (pe_callB (call_isE T.ec_TooMany (cl_of T.ec_TooMany)) (by rfl) T.b_isinstance PyProof.Rows.boot_isinstance (pa_cons (pv 1) (pa_cons (pe_glob (v := .ref a.x_BadClause) rfl T.mg_BadClause rfl) pa_nil))))) (pe_tup (pa_cons pe_str (pa_cons (pe_errF T.ec_BadClause T.np_BadClause (pv 1)) pa_nil))) (pe_tup (pa_cons pe_str (pa_cons pe_int pa_nil)))))))))), ?reading⟩
  case body =>
    refine ⟨fun pins s' σ H' D I h' => ?_⟩
    obtain ⟨Ech, hW, h1, h2, h3⟩ := h'
    exact (pss_one (ps_set (i := 2) sc__law_heard.nd rfl (Or.inl rfl) (act _ pn xe Ech _ _ (takes_len tk) (fun cls d σ' H' e => hW cls d σ' H' e)))).run pins s' σ H' D I ⟨h1, h2, h3⟩
  case reading =>
    refine q_asgRaw (q_asgRaw ?_)
    refine ⟨PartX a Q, fun cls d σ' H' hx len => ?_, rfl, hc, ?_⟩
    · match σ', len with
      | [y0, y1, y2, y3], _ =>
      rcases hx with ⟨hcls, dd, n, hd, hxd, kk⟩ | ⟨hcls, dd, hd, hxd, kk⟩
      · refine ⟨by rw [hcls]; exact T.em_BadClause, fun a0 oe ha0 hz hf => ?_⟩
        refine ⟨.ref a0, rfl, ?_⟩
        have hE : ErrAt (upd H' a0 (errO a0 oe)) a0 a.x_BadClause dd [(("at" : Str), .int (n : Nat))] := ⟨oe, upd_same, by rw [hz.1, hcls], by rw [hz.2, hd], hf, by rw [upd_ne (ne_of_none hxd ha0)]; exact hxd⟩
        refine q_when (b := false) (et_is (et_test (ev_op (ev_var (v := .ref a0) rfl) ev_c rv_isN)) (decide_eq_false (fun z => nomatch z))) (fun z => nomatch z) fun _ H2 e2 => ?_
        refine q_when (b := false) (et_and (a := false) (b := true) (et_B (ev_orL (ev_isE (K := X.K) (ev_var rfl) ev_c (fun u r => r) (hE.mono e2) T.ks_BadClause_TooMany))) fun z => nomatch z) (fun z => nomatch z) fun _ H3 e3 => ?_
        refine ret_raw (if_rawB (b := true) (et_B (ev_orL (ev_isE (K := X.K) (ev_var rfl) ev_c (fun u r => r) (hE.mono (e2.trans e3)) T.ks_BadClause_BadClause))) (fun _ H4 e4 => ?_) fun z => nomatch z)
        exact (eu_tup (vs := [.str "clause", .int (n : Nat)]) (ea_cons ev_c (ea_cons (ev_errF (ev_var rfl) (hE.mono ((e2.trans e3).trans e4)) (by simp [List.lookup])) ea_nil)) (by show 2 ≤ 100000; decide)) H4 (Ex.refl _) _ fun t H5 _ e5 h5 => kk t H5 (((Ex.new ha0).trans ((e2.trans e3).trans e4)).trans e5) h5
      · refine ⟨by rw [hcls]; exact T.em_TooMany, fun a0 oe ha0 hz hf => ?_⟩
        refine ⟨.ref a0, rfl, ?_⟩
        have hE : ErrAt (upd H' a0 (errO a0 oe)) a0 a.x_TooMany dd [(("most" : Str), .int 8)] := ⟨oe, upd_same, by rw [hz.1, hcls], by rw [hz.2, hd], hf, by rw [upd_ne (ne_of_none hxd ha0)]; exact hxd⟩
        refine q_when (b := false) (et_is (et_test (ev_op (ev_var (v := .ref a0) rfl) ev_c rv_isN)) (decide_eq_false (fun z => nomatch z))) (fun z => nomatch z) fun _ H2 e2 => ?_
        refine q_when (b := true) (et_and (a := true) (b := true) (et_B (ev_orR (ev_isE (K := X.K) (ev_var rfl) ev_c (fun u r => r) (hE.mono e2) T.ks_TooMany_TooMany))) fun _ => et_B (ev_isE (K := X.K) (ev_var rfl) ev_c (fun u r => r) (hE.mono e2) T.ks_TooMany_NoWay)) (fun _ H3 e3 => ?_) fun z => nomatch z
        refine ret_raw ((eu_tup (vs := [.str "many", .int 8]) (ea_cons ev_c (ea_cons (ev_errF (ev_var rfl) (hE.mono (e2.trans e3)) (by simp [List.lookup])) ea_nil)) (by show 2 ≤ 100000; decide)) H3 (Ex.refl _) _ fun t H5 _ e5 h5 => kk t H5 (((Ex.new ha0).trans (e2.trans e3)).trans e5) h5)
    · refine h _ fun b ps cs H1 cl k => ?_
      refine q_when (b := true) (et_is (et_test (ev_op (ev_var (v := .non) rfl) ev_c rv_isN)) rfl) (fun _ H2 e2 => ?_) (fun z => nomatch z)
      exact ret_raw ((el_lst (vs := [.ref b]) (ea_cons (ev_var rfl) ea_nil) (by show 1 ≤ 100000; decide)) H2 (Ex.refl _) _ fun l H3 hl e3 h3 => k l H3 (fresh_back e2 hl) (e2.trans e3) h3)
end KL
set_option Elab.async false
set_option linter.all false
set_option maxRecDepth 100000
set_option maxHeartbeats 4000000
namespace KL
open PySem PySem.Spec PyProof.Rows L2 Evl KF
local macro_rules | `(tactic| walk_at "ev") => `(tactic| repeat' (first | exact ev_c | exact ev_var rfl | exact rv_I0 | refine' rv_I ?_ | refine' rv_eq ?_ | refine' rv_ne ?_ | refine' ev_op ?_ ?_ ?_ | exact ea_nil | refine' ea_cons ?_ ?_ | refine' et_test ?_ | refine' et_B ?_ | refine' et_not ?_ | refine' ev_notV ?_))

open PySem LamX KErr
/-! ### told clauses, compared -/
theorem strs_ok : (∀ s ∈ allWho, PyData.strOk s = true) ∧ (∀ s ∈ allSign, PyData.strOk s = true) ∧ ∀ s ∈ allw, PyData.strOk s = true := by decide +kernel
def clD (c : Cl) : PyData := .tuple [.str c.1, .str c.2.1, .str c.2.2]
theorem eqv_clD (c d : Cl) : PyData.eqv (clD c) (clD d) = decide (c = d) := by
  obtain ⟨x, y, z⟩ := c
  obtain ⟨u, v, w⟩ := d
  unfold clD
  simp only [PyData.eqv, PyData.eqvAll]
  by_cases h1 : x = u <;> by_cases h2 : y = v <;> by_cases h3 : z = w <;> simp [h1, h2, h3]
theorem eqv_cls : ∀ cs ds : List Cl, PyData.eqvAll (cs.map clD) (ds.map clD) = decide (cs = ds)
  | [], [] => by simp [PyData.eqvAll]
  | [], _ :: _ => by simp [PyData.eqvAll]
  | _ :: _, [] => by simp [PyData.eqvAll]
  | c :: cs, d :: ds => by
    have := eqv_cls cs ds
    simp only [List.map_cons, PyData.eqvAll, eqv_clD, this]
    by_cases h : c = d <;> by_cases h2 : cs = ds <;> simp [h, h2]
theorem lay_cls : ∀ cs : List Cl, (∀ c ∈ cs, clOk c) → PyData.canLayAll0 (cs.map clD) = true ∧ PyData.depthAll (cs.map clD) ≤ 1
  | [], _ => by simp [PyData.canLayAll0, PyData.depthAll]
  | c :: cs, h => by
    obtain ⟨h1, h2⟩ := lay_cls cs fun d m => h d (List.mem_cons_of_mem _ m)
    have ok := h c (List.mem_cons_self ..)
    have o1 := strs_ok.1 _ ok.who
    have o2 := strs_ok.2.1 _ ok.sign
    have o3 := strs_ok.2.2 _ ok.what
    simp only [List.map_cons, PyData.canLayAll0, PyData.depthAll, clD, PyData.canLay0, PyData.depth, o1, o2, o3, h1]
    simp
    omega
theorem shaped_cls {cs : List Cl} (h : ∀ c ∈ cs, clOk c) : SeqAt.shaped (.list (cs.map clD)) = true := by
  obtain ⟨h1, h2⟩ := lay_cls cs h
  unfold SeqAt.shaped
  simp [PyData.canLay0, PyData.depth, h1]
  omega
theorem dp_cls {K : PySem.W.Frag} {H : Hp} : ∀ (ys : List V) (cs : List Cl), ys.length = cs.length → (∀ (i : Nat) (y : V) (c : Cl), ys[i]? = some y → cs[i]? = some c → Told3 H y c) → DpAll K H ys (cs.map clD)
  | [], [], _, _ => .nil
  | y :: ys, c :: cs, hl, h => by
    obtain ⟨t, rfl, ht⟩ := h 0 y c rfl rfl
    exact .cons (.tup (st_of ht) (.cons (.str _) (.cons (.str _) (.cons (.str _) .nil)))) (dp_cls ys cs (by simpa using hl) fun i z d a b => h (i + 1) z d a b)
theorem ToldL.dp {K : PySem.W.Frag} {H : Hp} {l : Addr} {cs : List Cl} (h : ToldL H l cs) : Dp K H (.ref l) (.list (cs.map clD)) := let ⟨ys, h1, h2, h3⟩ := h; .lst (sq_of h1) (dp_cls ys cs h2 h3)
theorem rv_told {K : PySem.W.Frag} {H : Hp} {p q : Addr} {cs ds : List Cl} (h1 : ToldL H p cs) (h2 : ToldL H q ds) (o1 : ∀ c ∈ cs, clOk c) (o2 : ∀ c ∈ ds, clOk c) : RV (rEqD K) (.ref p) (.ref q) H (.bl (decide (cs = ds))) := fun H1 e Q k =>
  ⟨_, _, (h1.mono e).dp, (h2.mono e).dp, shaped_cls o1, shaped_cls o2, by
    rw [show PyData.eqv (.list (cs.map clD)) (.list (ds.map clD)) = PyData.eqvAll (cs.map clD) (ds.map clD) by simp [PyData.eqv], eqv_cls]
    exact k H1 (Ex.refl H1)⟩
theorem rv_toldN {K : PySem.W.Frag} {H : Hp} {p q : Addr} {cs ds : List Cl} (h1 : ToldL H p cs) (h2 : ToldL H q ds) (o1 : ∀ c ∈ cs, clOk c) (o2 : ∀ c ∈ ds, clOk c) : RV (rNeD K) (.ref p) (.ref q) H (.bl (!decide (cs = ds))) := fun H1 e Q k =>
  ⟨_, _, (h1.mono e).dp, (h2.mono e).dp, shaped_cls o1, shaped_cls o2, by
    rw [show PyData.eqv (.list (cs.map clD)) (.list (ds.map clD)) = PyData.eqvAll (cs.map clD) (ds.map clD) by simp [PyData.eqv], eqv_cls]
    exact k H1 (Ex.refl H1)⟩
/-! ### what is refused -/
def wordD (w : Str) (n : Nat) : PyData := .tuple [.str w, .int (n : Nat)]
theorem rv_word {K : PySem.W.Frag} {H : Hp} {p q : Addr} {w : Str} {n : Nat} (h1 : H p = some (.tup [.str w, .int (n : Nat)])) (h2 : H q = some (.tup [.str w, .int (n : Nat)])) (ok : PyData.strOk w = true) : RV (rEqD K) (.ref p) (.ref q) H (.bl true) ∧ RV (rNeD K) (.ref p) (.ref q) H (.bl false) := by
  have sh : SeqAt.shaped (wordD w n) = true := by
    unfold SeqAt.shaped wordD
    simp [PyData.canLay0, PyData.canLayAll0, PyData.depth, PyData.depthAll, ok]
  have eq : PyData.eqv (wordD w n) (wordD w n) = true := by simp [wordD, PyData.eqv, PyData.eqvAll]
  have dp : ∀ {r : Addr} {H1 : Hp}, H1 r = some (.tup [.str w, .int (n : Nat)]) → Dp K H1 (.ref r) (wordD w n) := fun h => .tup (st_of h) (.cons (.str _) (.cons (.int _) .nil))
  exact ⟨fun H1 e Q k => ⟨_, _, dp (e _ _ h1), dp (e _ _ h2), sh, sh, by rw [eq]; exact k H1 (Ex.refl H1)⟩, fun H1 e Q k => ⟨_, _, dp (e _ _ h1), dp (e _ _ h2), sh, sh, by rw [eq]; exact k H1 (Ex.refl H1)⟩⟩
/-- the word and the number that a refusal is told by -/
def wordOf : Option Nat → Str × Nat
  | none => ("many", 8)
  | some n => ("clause", n)
theorem word_ok (r : Option Nat) : PyData.strOk (wordOf r).1 = true := by
  cases r with
  | none => decide +kernel
  | some n => show PyData.strOk "clause" = true; decide +kernel
/-- what is heard, by the clauses that were handed -/
def HC (a : Ads) (H : Hp) (v : V) (cs : List (Option Cl)) : Prop := match dueC cs with
  | some r => ∃ t, v = .ref t ∧ H t = some (.tup [.str (wordOf r).1, .int ((wordOf r).2 : Nat)])
  | none => ∃ (l p : Addr) (ps : List Addr) (ds : List Cl), cs = ds.map some ∧ v = .ref l ∧ H l = some (.lst [.ref p]) ∧ ChX a H p ps ds
theorem KeepT.ofN {H H' : Hp} (e : ExtN H H') : KeepT H H' := ⟨fun b xs h => e _ _ h (fun _ z => nomatch z), fun b C dx f fs h => e _ _ h (fun _ z => nomatch z)⟩
section
variable {K : PySem.W.Frag} {a : Ads} {T : List (Addr × Str)} {σ : L2.St} {H : Hp} {ta : TA} {te t1 t2 : TE} {x y z : V} {Q : VK} {cs : List (Option Cl)}
theorem heard_any (tabs : Tabs T H) {tl : XK → Hp → VK → Prop} (sub : ∀ (E : XK) (H1 : Hp) (Q' : VK), ExtN H H1 → (∀ (ds : List Cl) (ps : List Addr) x H2, cs = ds.map some → dueC cs = none → H1 x = none → Ex H1 H2 → ChX a H2 x ps ds → Q' (.ref x) H2) → (∀ n, dueC cs = some (some n) → Told a E H1 n) → (dueC cs = some none → ToldM a E H1) → tl E H1 Q')
    (k : ∀ v H', ExtN H H' → Tabs T H' → HC a H' v cs → Q v H') : Tabs T H ∧ ∀ H1, ExtN H H1 → Tabs T H1 → THeard a tl H1 Q :=
  ⟨tabs, fun H1 eN T1 Q' imp => sub _ H1 _ eN (fun ds ps x H2 ec dn hx e2 ch => imp x ps ds H2 ch fun l H3 hl e3 h3 => k _ H3 (eN.trans (ExtN.of (e2.trans e3))) (tabs_keep T1 (e2.trans e3)) (by
      unfold HC
      rw [dn]
      exact ⟨l, x, ps, ds, ec, rfl, h3, ch.kt (KeepT.of e3)⟩))
    (fun n hn d H2 hd e2 h2 => .inl ⟨rfl, d, n, rfl, h2, fun t H3 e3 h3 => k _ H3 (eN.trans (ExtN.of (e2.trans e3))) (tabs_keep T1 (e2.trans e3)) (by
      unfold HC
      rw [hn]
      exact ⟨t, rfl, h3⟩)⟩)
    (fun hn d H2 hd e2 h2 => .inr ⟨rfl, d, rfl, h2, fun t H3 e3 h3 => k _ H3 (eN.trans (ExtN.of (e2.trans e3))) (tabs_keep T1 (e2.trans e3)) (by
      unfold HC
      rw [hn]
      exact ⟨t, rfl, h3⟩)⟩)⟩
theorem heard_call {l : Addr} {xs : List V} (tabs : Tabs T H) (hl : H l = some (.lst xs)) (hz : xs.length ≤ 10) (ft : ∀ H1, ExtN H H1 → Fits a H1 xs cs) (ht : ∀ H, Ev te σ H (.ref l)) (k : ∀ v H', ExtN H H' → Tabs T H' → HC a H' v cs → Q v H') :
    tLam T (THeard a) (fun E => tCall (spCallA a) [] E (tCons te tNil)) σ H Q :=
  heard_any tabs (fun E H1 Q' eN g1 g2 g3 => ht H1 H1 (Ex.refl _) _ fun H2 e2 => ⟨l, xs, cs, rfl, e2 _ _ (eN _ _ hl fun _ z => nomatch z), hz, (ft H1 eN).mono e2, MakeN.back ⟨fun ds ps x H3 h1 _ h3 h4 h5 h6 => g1 ds ps x H3 h1 h3 h4 h5 h6, g2, g3⟩ e2⟩) k
def csOf : V → List (Option Cl)
  | .str s => partsC s
  | _ => []
theorem dueS_of (x : V) : dueS x = dueC (csOf x) := by
  cases x with
  | str s => rfl
  | _ => rfl
theorem heard_read (tabs : Tabs T H) (ax : ∀ H1, ExtN H H1 → AnyE H1 x) (ht : ∀ H, Ev te σ H x) (k : ∀ v H', ExtN H H' → Tabs T H' → HC a H' v (csOf x) → Q v H') :
    tLam T (THeard a) (fun E => ClX.tCMeth a.f_Change (fun vs H Q E => spCReadA a (vs ++ []) H Q E) E (tC (.ref a.f_Change)) (tCons te tNil)) σ H Q :=
  heard_any tabs (fun E H1 Q' eN g1 g2 g3 => ⟨rfl, ht H1 H1 (Ex.refl _) _ fun H2 e2 => ⟨x, rfl, (ax H1 eN).mono e2, fun s ds p H3 ex pc dn hp e3 ch => by
    subst ex
    obtain ⟨ps, ch⟩ := ch
    exact g1 ds ps p H3 pc dn (fresh_back e2 hp) (e2.trans e3) ch, fun n hn => (g2 n (by rw [← dueS_of]; exact hn)).back e2, fun hn => (g3 (by rw [← dueS_of]; exact hn)).back e2⟩⟩) k
end
end KL
set_option Elab.async false
set_option linter.all false
set_option maxRecDepth 100000
set_option maxHeartbeats 4000000
namespace KL
open PySem PySem.Spec PyProof.Rows L2 Evl KF
local macro_rules | `(tactic| walk_at "ev") => `(tactic| repeat' (first | exact ev_c | exact ev_var rfl | exact rv_I0 | refine' rv_I ?_ | refine' rv_eq ?_ | refine' rv_ne ?_ | refine' ev_op ?_ ?_ ?_ | exact ea_nil | refine' ea_cons ?_ ?_ | refine' et_test ?_ | refine' et_B ?_ | refine' et_not ?_ | refine' ev_notV ?_))

open PySem
/-! ### texts of clauses and changes, judged -/
def isCl (s : Str) : Bool := (clOf s).isSome
theorem isCl_none {s : Str} (h : pieces s = none) : isCl s = false := by
  unfold isCl clOf
  rw [h]
  rfl
theorem isCl_some {s x y z : Str} (h : pieces s = some (x, y, z)) (hy : signB (.str y) = true) : isCl s = (decide (whoOf (.str x) ≠ none) && whatB (.str z)) := by
  unfold isCl clOf
  rw [h]
  show (if dueP (.str x) (.str y) (.str z) = none then (whoOf (.str x)).map fun who => (who, y, z) else none).isSome = _
  unfold dueP
  rw [hy]
  cases h1 : whoOf (.str x) with
  | none => simp
  | some who =>
    cases h2 : whatB (.str z) with
    | true => simp
    | false => simp
theorem q_unt {K : PySem.W.Frag} {σ : L2.St} {H : Hp} {te : TE} {D : Ends} {tz : TS} {xs : List V} {k : Nat} {tgs : TGs} (h : EvU te σ H xs) (hl : xs.length = k) (q : ∀ H1, Ex H H1 → tgs xs σ H1 (tz D)) : tSeq (tAsg te (gTup K k tgs)) tz D σ H := h H (Ex.refl _) _ fun u H1 _ e h1 => ⟨u, xs, rfl, st_of h1, hl, q H1 e⟩
def spIsCl : Sp := fun vs H Q _ => ∃ (s : Str), vs = [.str s] ∧ s.cps.size ≤ 900 ∧ ∀ H', Ex H H' → Q (.bl (isCl s)) H'
section
variable {P : Program} {w : World} {K : PySem.W.Frag} {mg : Str → Option Value} {base : Heap} {a : Ads}
theorem ok_is_cl (T : Txt w K mg a) : FnOk P w K mg base CX0 3 a.f__law_is_clause a.d__law_is_clause ["_law_text_so"] spIsCl := by
  refine T.fn__law_is_clause.ok sc__law_is_clause (fun vs H Q E h => ?_) (fun cdv A outer s H vs Q E hr h => ?_)
  · obtain ⟨_, rfl, _⟩ := h
    rfl
  · obtain ⟨t, rfl, sz, k⟩ := h
    refine ⟨_, (pss_cons (ps_setLc (i := 1) (own := [("_law_at", 4)]) (g := gName 4) rfl sc__law_is_clause.nd rfl rfl (sw_true rfl rfl rfl (by decide +kernel)) (pi_range1 rfl T.b_range (pa_cons (pe_callB call_len_str (by rfl) T.b_len PySem.boot_len (pa_cons (pv 0) pa_nil)) pa_nil)) (blkOk_by (own := [("_law_at", 4)]) (N := n__law_is_clause) (sc := defScope s__law_is_clause) (by decide +kernel)) (fun _ _ _ _ _ => (pg_name (i := 4) sc__law_is_clause.nd rfl (Or.inl rfl))) (fun _ _ _ _ _ => (pts_one (pt_cmpR op_in_sign (pe_ix ix_str (pv 0) (pv 4) (fun _ _ => rfl)) pe_str (by rfl)))) (fun _ _ _ _ _ => (pv 4)))
    (pss_cons (ps_if (pt_cmpR (KV.op_eqNilL rfl hr.units) (pv 1) (pe_lst pa_nil) (nomark _)) (pss_one (ps_ret pe_bl)) pss_nil)
    (pss_cons (ps_asg (pe_tup (pa_cons (pe_slice sl_str (pv 0) po_none (po_some (pe_ix ix_list (pv 1) pe_int (fun _ _ => rfl)))) (pa_cons (pe_slice sl_str (pv 0) (po_some (pe_op op_add (pe_ix ix_list (pv 1) pe_int (fun _ _ => rfl)) pe_int)) po_none) pa_nil))) (pg_tup rfl (pgs_cons (pg_name (i := 2) sc__law_is_clause.nd rfl (Or.inr rfl)) (pgs_cons (pg_name (i := 3) sc__law_is_clause.nd rfl (Or.inr rfl)) pgs_nil))))
    (pss_cons (ps_if (PW.pt (pw_and (pt_cmpR op_ne (pv 2) pe_str (nomark _)) (pw_and1 (PW.pt (pw_or (pt_cmpR op_eq (pv 2) pe_str (nomark _)) (pw_or1 (pt_cmpR op_ne (pv 2) (pe_join pe_str (pe_lc (own := [("_law_sign", 5)]) (g := gName 5) rfl sc__law_is_clause.nd (pi_str pe_str) (blkOk_by (own := [("_law_sign", 5)]) (N := n__law_is_clause) (sc := defScope s__law_is_clause) (by decide +kernel)) (fun _ _ _ _ _ => (pg_name (i := 5) sc__law_is_clause.nd rfl (Or.inl rfl))) (fun _ _ _ _ _ => (pts_one (pt_cmpR op_in_sign (pv 5) (pv 2) (by rfl)))) (fun _ _ _ _ _ => (pv 5)))) (nomark _)))))))) (pss_one (ps_ret pe_bl)) pss_nil)
    (pss_one (ps_ret (pe_or (pe_cmpR (KW.op_inS rfl hr.units) (pv 3) (pe_tup (pa_cons pe_str (pa_cons pe_str (pa_cons pe_str pa_nil)))) (by rfl)) (pe_one (pe_cmpR op_eq (pv 3) (pe_join pe_str (pe_lc (own := [("_law_sign", 5)]) (g := gName 5) rfl sc__law_is_clause.nd (pi_str pe_str) (blkOk_by (own := [("_law_sign", 5)]) (N := n__law_is_clause) (sc := defScope s__law_is_clause) (by decide +kernel)) (fun _ _ _ _ _ => (pg_name (i := 5) sc__law_is_clause.nd rfl (Or.inl rfl))) (fun _ _ _ _ _ => (pts_one (pt_cmpR op_in_sign (pv 5) (pv 3) (by rfl)))) (fun _ _ _ _ _ => (pv 5)))) (nomark _)))))))))), ?_⟩
    have tz : t.length = t.cps.size := rfl
    have cd : ∀ (i : Nat), i < t.cps.size → t.cps.toList[i]? = some (t.cps.toList.getD i 0) := fun i hi => by
      have : i < t.cps.toList.length := by rw [Array.length_toList]; exact hi
      rw [getD_at this, List.getElem?_eq_getElem this]
    refine q_asgL (xs := ((List.range t.cps.size).filter fun i => isSign (t.cps.toList.getD i 0)).map fun i => V.int (i : Nat)) (el_is (el_lcR1 (n := (t.length : Nat)) (fun i => isSign (t.cps.toList.getD i 0)) (fun i => V.int (i : Nat)) (ea_cons (ev_lenStr (ev_var rfl) (by omega)) ea_nil) (by omega) (fun _ => rfl) (fun i H1 e1 hi => et_test (ev_is (ev_op (ev_op (ev_var rfl) (ev_var rfl) (rv_ixS (by omega) (atI_nat (cd i (by omega))))) ev_c rv_inS) (congrArg V.bl (sign_in _)))) fun i H1 e1 hi _ => ev_var rfl) (by unfold given; rfl)) fun g H1 hg e1 h1 => ?_
    refine q_when (b := decide (firstS t = none)) (et_is (et_test (KV.ev_eqNilL (K := K) (neg := false) (ev_var rfl) h1 (el_lst (vs := []) ea_nil (by decide)))) ?_) (fun hb H2 e2 => ?_) fun hb H2 e2 => ?_
    · show decide _ = _
      refine decide_eq_decide.mpr ?_
      rw [← first_head, List.map_eq_nil_iff, List.head?_eq_none_iff]
    · have pn : pieces t = none := by
        unfold pieces
        rw [of_decide_eq_true hb]
        rfl
      exact s_ret (v := .bl false) ev_c fun H3 e3 => by
        have := k H3 ((e1.trans e2).trans e3)
        rw [isCl_none pn] at this
        exact this
    · obtain ⟨i, hi⟩ : ∃ i, firstS t = some i := by
        cases h : firstS t with
        | none => exact absurd h (of_decide_eq_false hb)
        | some i => exact ⟨i, rfl⟩
      have hm := first_head t
      rw [hi] at hm
      have hm := List.mem_filter.mp (List.mem_of_mem_head? hm)
      have ilt : i < t.cps.size := List.mem_range.mp hm.1
      have hd : (((List.range t.cps.size).filter fun i => isSign (t.cps.toList.getD i 0)).map fun i => V.int (i : Nat))[0]? = some (.int (i : Nat)) := by
        rw [← List.head?_eq_getElem?, List.head?_map, first_head, hi]
        rfl
      have pc : pieces t = some (cutS t none (some (i : Nat)), ⟨#[t.cps.toList.getD i 0]⟩, cutS t (some ((i : Nat) + 1)) none) := by
        unfold pieces
        rw [hi]
        rfl
      have res := isCl_some pc hm.2
      have at0 : ∀ H3, Ex H2 H3 → ∀ σ : L2.St, σ[1]? = some (some (.ref g)) → Ev (tOp (rIxL K) (tVar 1) (tC (.int 0))) σ H3 (.int (i : Nat)) := fun H3 e3 σ hs => ev_ixl (K := K) (i := 0) (ev_var hs) ((e2.trans e3) _ _ h1) hd
      have z1 := cutS_size t none (some (i : Nat))
      have z2 := cutS_size t (some ((i : Nat) + 1)) none
      refine q_unt (K := K) (eu_tup (vs := [.str (cutS t none (some (i : Nat))), .str (cutS t (some ((i : Nat) + 1)) none)]) (ea_cons (ev_slS (ev_var rfl) eo_none (eo_some (at0 _ (Ex.refl _) _ rfl)) (by omega)) (ea_cons (ev_slS (ev_var rfl) (eo_some (ev_op (at0 _ (Ex.refl _) _ rfl) ev_c rv_I0)) eo_none (by omega)) ea_nil)) (by show 2 ≤ 100000; decide)) rfl fun H3 e3 => ⟨_, _, rfl, ⟨_, _, rfl, rfl, ?_⟩⟩
      generalize cutS t none (some (i : Nat)) = x at res z1
      generalize cutS t (some ((i : Nat) + 1)) none = z at res z2
      have letters : ∀ (l v : Str) (k : Nat) (hl : l.cps.size ≤ 20) (H4 : Hp), ([some (.str t), some (.ref g), some (.str x), some (.str z), none, none] : L2.St)[k]? = some (some (.str v)) → k < 4 → EvL (tLc (iStr (tC (.str l))) (gName 5) (tTest (tOp (fun x y H Q => ∃ (c : Nat) (z : Str), x = .str ⟨#[c]⟩ ∧ y = .str z ∧ Q (.bl (decide (c ∈ z.cps.toList))) H) (tVar 5) (tVar k))) (tVar 5) [5]) ([some (.str t), some (.ref g), some (.str x), some (.str z), none, none] : L2.St) H4 ((chosen v l).map V.str) := fun l v k hl H4 hk k4 => by
        have hL := el_lcS (σ := [some (.str t), some (.ref g), some (.str x), some (.str z), none, none]) (H := H4) (s := l) (tl' := tC (.str l)) (j := 5) (vs := [5]) (t := tTest (tOp (fun x y H Q => ∃ (c : Nat) (z : Str), x = .str ⟨#[c]⟩ ∧ y = .str z ∧ Q (.bl (decide (c ∈ z.cps.toList))) H) (tVar 5) (tVar k))) (te := tVar 5) (fun i => decide (l.cps.toList.getD i 0 ∈ v.cps.toList)) (fun i => .str ⟨#[l.cps.toList.getD i 0]⟩) ev_c (by omega) (fun _ => rfl)
          (fun i c H2 e2 hc => et_test (ev_is (ev_op (ev_var rfl) (ev_var (by
            match k, k4, hk with
            | 0, _, hk => exact hk
            | 1, _, hk => exact hk
            | 2, _, hk => exact hk
            | 3, _, hk => exact hk)) rv_inS) (by rw [← Array.getElem?_toList] at hc; simp [List.getD, hc])))
          (fun i c H2 e2 hc _ => ev_is (ev_var rfl) (by rw [← Array.getElem?_toList] at hc; simp [List.getD, hc]))
        rw [given_signs l fun c => decide (c ∈ v.cps.toList)] at hL
        exact hL
      refine q_when (b := decide (whoOf (.str x) = none)) (et_is (et_and (a := !decide (V.str x = .str "a")) (b := decide (V.str x = .str "") || !(chB "ugo" (.str x))) (et_test (ev_op (ev_var rfl) ev_c (rv_ne rfl))) fun _ => et_or (a := decide (V.str x = .str "")) (b := !(chB "ugo" (.str x))) (et_test (ev_op (ev_var rfl) ev_c (rv_eq rfl))) fun _ => et_test (ev_op (ev_var rfl) (ev_join (s := "") ev_c (letters "ugo" x 2 (by decide +kernel) _ rfl (by decide)) (chosen_small (by decide +kernel))) (rv_ne rfl))) (who_test (.str x))) (fun hb H4 e4 => ?_) fun hb H4 e4 => ?_
      · rw [decide_eq_false (fun z => z (of_decide_eq_true hb)), Bool.false_and] at res
        exact s_ret (v := .bl false) ev_c fun H5 e5 => by
          have := k H5 ((((e1.trans e2).trans e3).trans e4).trans e5)
          rw [res] at this
          exact this
      · rw [decide_eq_true (of_decide_eq_false hb), Bool.true_and] at res
        have wt : ((decide (∃ u ∈ (["u", "g", "o"] : List Str), V.str z = .str u)) || chB "rwxX" (.str z)) = whatB (.str z) := by
          have := what_test (.str z)
          cases h1 : decide (∃ u ∈ (["u", "g", "o"] : List Str), V.str z = .str u) <;> cases h2 : chB "rwxX" (.str z) <;> cases h3 : whatB (.str z) <;> simp_all
        exact s_ret (v := .bl (whatB (.str z))) (ev_is (ev_orV (a := decide (∃ u ∈ (["u", "g", "o"] : List Str), V.str z = .str u)) (b := chB "rwxX" (.str z)) (ev_opU (ev_var rfl) (eu_tup (vs := [.str "u", .str "g", .str "o"]) (ea_cons ev_c (ea_cons ev_c (ea_cons ev_c ea_nil))) (by decide)) fun q H5 hq e5 => KW.rv_inS (neg := false) (zs := ["u", "g", "o"]) (.inl rfl) (st_of hq)) fun _ => ev_op (ev_var rfl) (ev_join (s := "") ev_c (letters "rwxX" z 3 (by decide +kernel) _ rfl (by decide)) (chosen_small (by decide +kernel))) (rv_eq rfl)) (congrArg V.bl wt)) fun H5 e5 => by
          have := k H5 ((((e1.trans e2).trans e3).trans e4).trans e5)
          rw [res] at this
          exact this
end
end KL
set_option Elab.async false
set_option linter.all false
set_option maxRecDepth 100000
set_option maxHeartbeats 4000000
namespace KL
open PySem PySem.Spec PyProof.Rows L2 Evl KF
local macro_rules | `(tactic| walk_at "ev") => `(tactic| repeat' (first | exact ev_c | exact ev_var rfl | exact rv_I0 | refine' rv_I ?_ | refine' rv_eq ?_ | refine' rv_ne ?_ | refine' ev_op ?_ ?_ ?_ | exact ea_nil | refine' ea_cons ?_ ?_ | refine' et_test ?_ | refine' et_B ?_ | refine' et_not ?_ | refine' ev_notV ?_))

open PySem
/-- what is told of a refusal -/
def DueV (H : Hp) (v : V) : Option (Option Nat) → Prop
  | none => v = .non
  | some r => ∃ t, v = .ref t ∧ H t = some (.tup [.str (wordOf r).1, .int ((wordOf r).2 : Nat)])
theorem DueV.kt {H H' : Hp} {v : V} {r : Option (Option Nat)} (h : DueV H v r) (e : KeepT H H') : DueV H' v r := by
  match r, h with
  | none, h => exact h
  | some r, ⟨t, e1, h2⟩ => exact ⟨t, e1, e.1 _ _ h2⟩
theorem head_filter {α : Type} (L : List α) (d : α) (p : α → Bool) : ((List.range L.length).filter fun i => p (L.getD i d)).head? = L.findIdx? p := by
  rw [List.head?_filter]
  have at_ : ∀ {i : Nat} (h : i < L.length), L.getD i d = L[i] := fun h => by rw [List.getD_eq_getElem?_getD, List.getElem?_eq_getElem h]; rfl
  cases h : L.findIdx? p with
  | none =>
    rw [List.findIdx?_eq_none_iff] at h
    rw [List.find?_eq_none]
    intro i hi
    have hi := List.mem_range.mp hi
    rw [at_ hi, h _ (List.getElem_mem hi)]
    decide
  | some i =>
    rw [List.findIdx?_eq_some_iff_getElem] at h
    obtain ⟨hi, hp, no⟩ := h
    rw [List.find?_range_eq_some]
    refine ⟨by rw [at_ hi]; exact hp, List.mem_range.mpr hi, fun j hj => ?_⟩
    have := no j hj
    rw [at_ (Nat.lt_trans hj hi)]
    cases hq : p (L[j]'(Nat.lt_trans hj hi)) with
    | false => rfl
    | true => exact absurd hq this
theorem spl_ne (S : List Nat) : ∀ (l : List Nat) (k : Nat) (acc : List Nat), TL.spl S k acc l ≠ [] := by
  intro l
  induction l with
  | nil => intro k acc; rw [TL.spl_nil]; exact fun z => nomatch z
  | cons c r ih =>
    intro k acc
    cases k with
    | zero =>
      by_cases h : TL.pre S (c :: r) = true
      · rw [TL.spl_hit h]; exact fun z => nomatch z
      · rw [TL.spl_miss (by simpa using h)]; exact ih _ _
    | succ k => exact ih k acc
theorem split_ne (s : Str) : Txt.split s "," ≠ [] := fun z => by
  have := split_tl s
  rw [z] at this
  exact spl_ne _ _ _ _ this.symm
theorem spl_many (S : List Nat) : ∀ (l : List Nat) (k : Nat) (acc : List Nat), (TL.spl S k acc l).length ≤ l.length + 1 := by
  intro l
  induction l with
  | nil => intro k acc; rw [TL.spl_nil]; exact Nat.le_refl 1
  | cons c r ih =>
    intro k acc
    rw [List.length_cons]
    cases k with
    | zero =>
      by_cases h : TL.pre S (c :: r) = true
      · rw [TL.spl_hit h, List.length_cons]
        have := ih (S.length - 1) []
        omega
      · rw [TL.spl_miss (by simpa using h)]
        have := ih 0 (acc ++ [c])
        omega
    | succ k =>
      have := ih k acc
      exact Nat.le_succ_of_le this
theorem split_many (s : Str) : (Txt.split s ",").length ≤ s.cps.size + 1 := by
  have h := congrArg List.length (split_tl s)
  rw [List.length_map] at h
  have := spl_many [44] (TL.tl s) 0 []
  rw [← h] at this
  simpa using this
def spTDue : Sp := fun vs H Q _ => ∃ (s : Str), vs = [.str s] ∧ s.cps.size ≤ 900 ∧ ∀ v H', Ex H H' → DueV H' v (dueC (partsC s)) → Q v H'
section
variable {P : Program} {w : World} {K : PySem.W.Frag} {mg : Str → Option Value} {base : Heap} {a : Ads}
theorem ok_td (T : Txt w K mg a) : FnOk P w K mg base CX0 4 a.f__law_text_due a.d__law_text_due ["_law_text_so"] spTDue := by
  have G__law_is_clause : FnOk P w K mg base CX0 3 _ _ _ _ := ok_is_cl T
  refine T.fn__law_text_due.ok sc__law_text_due (fun vs H Q E h => ?_) (fun cdv A outer s0 H vs Q E hr h => ?_)
  · obtain ⟨_, rfl, _⟩ := h
    rfl
  · obtain ⟨s, rfl, sz, k⟩ := h
    have hrc : Room 3 _ := hr
    refine ⟨_, (pss_cons (ps_set (i := 1) sc__law_text_due.nd rfl (Or.inr rfl) (pe_split (pv 0) pe_str))
    (pss_cons (ps_if (pt_cmpR op_gt (pe_callB call_len_seq (by rfl) T.b_len PySem.boot_len (pa_cons (pv 1) pa_nil)) pe_int (nomark _)) (pss_one (ps_ret (pe_tup (pa_cons pe_str (pa_cons pe_int pa_nil))))) pss_nil)
    (pss_cons (ps_setLc (i := 2) (own := [("_law_at", 3)]) (g := gName 3) rfl sc__law_text_due.nd rfl rfl (sw_true rfl rfl rfl (by decide +kernel)) (pi_range1 rfl T.b_range (pa_cons (pe_callB call_len_seq (by rfl) T.b_len PySem.boot_len (pa_cons (pv 1) pa_nil)) pa_nil)) (blkOk_by (own := [("_law_at", 3)]) (N := n__law_text_due) (sc := defScope s__law_text_due) (by decide +kernel)) (fun _ _ _ _ _ => (pg_name (i := 3) sc__law_text_due.nd rfl (Or.inl rfl))) (fun _ _ _ _ _ => (pts_one (pt_not (pt_val (pe_call G__law_is_clause hrc rfl T.mg__law_is_clause T.fn__law_is_clause.kp (bd__law_is_clause T) .nil pass0 (pa_cons (pe_ix (r := rIxL K) ix_list (pv 1) (pv 3) (fun _ _ => rfl)) pa_nil)))))) (fun _ _ _ _ _ => (pv 3)))
    (pss_one (ps_ret (pe_ifExp (pt_cmpR (KV.op_neNilL rfl hr.units) (pv 2) (pe_lst pa_nil) (nomark _)) (pe_tup (pa_cons pe_str (pa_cons (pe_ix ix_list (pv 2) pe_int (fun _ _ => rfl)) pa_nil))) pe_non)))))), ?_⟩
    refine q_asgL (xs := (Txt.split s ",").map V.str) (fun H1' e1' Q' q' => ⟨_, rfl, ⟨s, rfl⟩, s, ",", rfl, rfl, by decide +kernel, by show s.length + 2 ≤ sizeLine; exact Nat.le_trans (Nat.add_le_add_right (show s.length ≤ 900 from sz) 2) (by decide), fun pr hpr => q' pr _ hpr (Ex.new hpr) upd_same⟩) fun pr H1 hpr e1 hp1 => ?_
    have many := split_many s
    have ne := split_ne s
    have psz : ∀ p ∈ Txt.split s ",", p.cps.size ≤ 900 := fun p hp => Nat.le_trans (split_size hp) sz
    have key : dueC (partsC s) = if 8 < (Txt.split s ",").length then some none else ((Txt.split s ",").findIdx? fun p => !isCl p).map some := by
      unfold dueC partsC
      rw [List.length_map, List.findIdx?_map]
      split
      · rfl
      · rw [if_neg (fun z => ne (List.map_eq_nil_iff.mp z))]
        congr 1
        congr 1
        funext p
        show (clOf p == none) = !(clOf p).isSome
        cases clOf p <;> rfl
    generalize Txt.split s "," = ps at hp1 many ne psz key
    refine q_when (b := decide (8 < ps.length)) (et_is (et_test (ev_op (ev_lenS (K := K) (ev_var rfl) (sq_of hp1)) ev_c rv_I0)) (by rw [List.length_map]; exact decide_eq_decide.mpr (by omega))) (fun hb H2 e2 => ?_) fun hb H2 e2 => ?_
    · rw [if_pos (of_decide_eq_true hb)] at key
      exact s_retU (xs := [.str "many", .int 8]) (eu_tup (ea_cons ev_c (ea_cons ev_c ea_nil)) (by show 2 ≤ 100000; decide)) fun r H3 hr3 e3 h3 => k _ H3 ((e1.trans e2).trans e3) (by rw [key]; exact ⟨r, rfl, h3⟩)
    rw [if_neg (of_decide_eq_false hb)] at key
    have cd : ∀ i : Nat, i < ps.length → (ps.map V.str)[i]? = some (.str (ps.getD i "")) := fun i hi => by
      rw [List.getElem?_map, List.getElem?_eq_getElem hi, List.getD_eq_getElem?_getD, List.getElem?_eq_getElem hi]
      rfl
    have small : ∀ i : Nat, i < ps.length → (ps.getD i "").cps.size ≤ 900 := fun i hi => psz _ (by
      rw [List.getD_eq_getElem?_getD, List.getElem?_eq_getElem hi]
      exact List.getElem_mem hi)
    have hf := head_filter ps "" fun p => !isCl p
    rw [← hf] at key
    refine q_asgL (xs := ((List.range ps.length).filter fun i => !isCl (ps.getD i "")).map fun i => V.int (i : Nat)) (el_is (el_lcR1 (n := (ps.length : Nat)) (fun i => !isCl (ps.getD i "")) (fun i => V.int (i : Nat)) (ea_cons (ev_is (ev_lenS (K := K) (ev_var rfl) (sq_of (e2 _ _ hp1))) (by rw [List.length_map])) ea_nil) (by omega) (fun _ => rfl) (fun i H3 e3 hi => et_not (et_B (ev_call (sp := spIsCl) (dvs := []) (vs := [.str (ps.getD i "")]) (ea_cons (ev_op (ev_var rfl) (ev_var rfl) (rv_ixL (K := K) (sq_of ((e2.trans e3) _ _ hp1)) (atI_nat (cd i (by omega))))) ea_nil) fun H e Q q E => ⟨_, rfl, small i (by omega), q⟩))) fun i H3 e3 hi _ => ev_var rfl) (by unfold given; rfl)) fun g H3 hg e3 h3 => ?_
    generalize ((List.range ps.length).filter fun i => !isCl (ps.getD i "")) = ws at key h3
    have e13 := (e1.trans e2).trans e3
    refine ret_raw (if_rawB (b := !decide (ws.map (fun i : Nat => V.int (i : Nat)) = [])) (et_test (KV.ev_eqNilL (K := K) (neg := true) (ev_var rfl) h3 (el_lst (vs := []) ea_nil (by decide)))) (fun hb H4 e4 => ?_) fun hb H4 e4 => ?_)
    · cases ws with
      | nil => cases hb
      | cons i ws => exact (eu_tup (vs := [.str "clause", .int (i : Nat)]) (ea_cons ev_c (ea_cons (ev_ixl (K := K) (i := 0) (ev_var rfl) (e4 _ _ h3) rfl) ea_nil)) (by show 2 ≤ 100000; decide)) H4 (Ex.refl _) _ fun r H5 hr5 e5 h5 => k _ H5 ((e13.trans e4).trans e5) (by rw [key]; exact ⟨r, rfl, h5⟩)
    · cases ws with
      | nil => exact k .non H4 (e13.trans e4) (by rw [key]; rfl)
      | cons i ws => cases hb
end
end KL
set_option Elab.async false
set_option linter.all false
set_option maxRecDepth 100000
set_option maxHeartbeats 4000000
namespace KL
open PySem PySem.Spec PyProof.Rows L2 Evl KF
local macro_rules | `(tactic| walk_at "ev") => `(tactic| repeat' (first | exact ev_c | exact ev_var rfl | exact rv_I0 | refine' rv_I ?_ | refine' rv_eq ?_ | refine' rv_ne ?_ | refine' ev_op ?_ ?_ ?_ | exact ea_nil | refine' ea_cons ?_ ?_ | refine' et_test ?_ | refine' et_B ?_ | refine' et_not ?_ | refine' ev_notV ?_))

open PySem
/-! ### texts bent -/
theorem cut_hi (xs : List V) (k : Nat) : cutV xs none (some (k : Int)) = xs.take k := by
  unfold cutV
  rw [HT.sIx_nat]
  show (xs.drop 0).take (min k xs.length - 0) = _
  rw [List.drop_zero, Nat.sub_zero]
  by_cases h : k ≤ xs.length
  · rw [Nat.min_eq_left h]
  · rw [Nat.min_eq_right (by omega), List.take_of_length_le (Nat.le_refl _), List.take_of_length_le (by omega)]
theorem cut_lo (xs : List V) (k : Nat) : cutV xs (some (k : Int)) none = xs.drop k := by
  unfold cutV
  rw [HT.sIx_nat]
  show (xs.drop (min k xs.length)).take (xs.length - min k xs.length) = _
  rw [List.take_of_length_le (by rw [List.length_drop]; omega)]
  by_cases h : k ≤ xs.length
  · rw [Nat.min_eq_left h]
  · rw [Nat.min_eq_right (by omega), List.drop_of_length_le (Nat.le_refl _), List.drop_of_length_le (by omega)]
section
variable {K : PySem.W.Frag} {σ : L2.St} {H H' : Hp} {ta tb te tc : TE} {xs ys : List V} {l p : Addr} {E : XK}
theorem el_cat (h1 : EvL ta σ H xs) (h2 : ∀ H1, Ex H H1 → EvL tb σ H1 ys) (hl : xs.length + ys.length ≤ 100000) : EvL (tOp rCat ta tb) σ H (xs ++ ys) := fun H1 e Q q =>
  h1 H1 e _ fun a H2 ha e2 x2 => h2 H2 (e.trans e2) H2 (Ex.refl _) _ fun b H3 hb e3 y3 => ⟨a, b, xs, ys, rfl, rfl, e3 _ _ x2, y3, sz_of hl, fun c hc => q c _ (fresh_back (e2.trans e3) hc) ((e2.trans e3).trans (Ex.new hc)) upd_same⟩
theorem el_catV (h1 : Ev ta σ H (.ref l)) (hl1 : H l = some (.lst xs)) (h2 : ∀ H1, Ex H H1 → EvL tb σ H1 ys) (hl : xs.length + ys.length ≤ 100000) : EvL (tOp rCat ta tb) σ H (xs ++ ys) := fun H1 e Q q =>
  h1 H1 e _ fun H2 e2 => h2 H2 (e.trans e2) H2 (Ex.refl _) _ fun b H3 hb e3 y3 => ⟨l, b, xs, ys, rfl, rfl, e3 _ _ (e2 _ _ (e _ _ hl1)), y3, sz_of hl, fun c hc => q c _ (fresh_back (e2.trans e3) hc) ((e2.trans e3).trans (Ex.new hc)) upd_same⟩
theorem el_hi {k : Nat} (h : Ev te σ H (.ref l)) (hk : Ev ta σ H (.int (k : Nat))) (hl : H l = some (.lst xs)) : EvL (tSl (rSlL K) te tNoPart (tPart ta)) σ H (xs.take k) := el_is (el_sl h eo_none (eo_some hk) (sq_of hl)) (cut_hi xs k)
theorem el_lo {k : Nat} (h : Ev te σ H (.ref l)) (hk : Ev ta σ H (.int (k : Nat))) (hl : H l = some (.lst xs)) : EvL (tSl (rSlL K) te (tPart ta) tNoPart) σ H (xs.drop k) := el_is (el_sl h (eo_some hk) eo_none (sq_of hl)) (cut_lo xs k)
end
def mass (ps : List Str) : Nat := (ps.map fun p : Str => p.cps.size).sum + ps.length
theorem mass_app (a b : List Str) : mass (a ++ b) = mass a + mass b := by
  unfold mass
  rw [List.map_append, List.sum_append, List.length_append]
  omega
theorem mass_cut (ps : List Str) (k : Nat) : mass (ps.take k) ≤ mass ps ∧ mass (ps.drop k) ≤ mass ps := by
  have := mass_app (ps.take k) (ps.drop k)
  rw [List.take_append_drop] at this
  omega
theorem spl_mass : ∀ (l acc : List Nat), ((TL.spl [44] 0 acc l).map List.length).sum + (TL.spl [44] 0 acc l).length = acc.length + l.length + 1 := by
  intro l
  induction l with
  | nil => intro acc; rw [TL.spl_nil]; simp
  | cons c r ih =>
    intro acc
    by_cases h : TL.pre [44] (c :: r) = true
    · rw [TL.spl_hit h]
      have := ih []
      simp only [List.map_cons, List.sum_cons, List.length_cons, List.length_nil] at this ⊢
      have e : (0 + 1 - 1 : Nat) = 0 := rfl
      rw [e]
      omega
    · rw [TL.spl_miss (by simpa using h)]
      have := ih (acc ++ [c])
      rw [List.length_append] at this
      have e : ([c] : List Nat).length = 1 := rfl
      rw [List.length_cons]
      omega
theorem split_mass (s : Str) : mass (Txt.split s ",") = s.cps.size + 1 := by
  have h := spl_mass (TL.tl s) []
  rw [← split_tl, List.map_map, List.length_map] at h
  unfold mass
  have e : (List.length ∘ TL.tl) = fun p : Str => p.cps.size := by
    funext p
    simp
  rw [e] at h
  simpa using h
theorem joinL_size : ∀ ps : List (List Nat), (TL.joinL [44] ps).length ≤ (ps.map List.length).sum + ps.length
  | [] => by simp [TL.joinL]
  | [p] => by simp [TL.joinL]
  | p :: q :: r => by
    have := joinL_size (q :: r)
    simp only [TL.joinL, List.length_append, List.map_cons, List.sum_cons, List.length_cons, List.length_nil] at this ⊢
    omega
theorem join_mass (ps : List Str) : (Txt.join "," ps).cps.size ≤ mass ps := by
  have h := joinL_size (ps.map TL.tl)
  rw [← comma, ← TL.tl_join, ← TL.join_eq, List.map_map, List.length_map] at h
  unfold mass
  have e : (List.length ∘ TL.tl) = fun p : Str => p.cps.size := by
    funext p
    simp
  rw [e] at h
  simpa using h
theorem mass_sum (ps : List Str) : (ps.map (·.length)).sum + ps.length * Str.length "," = mass ps := by
  have e1 : Str.length "," = 1 := by decide +kernel
  rw [e1, Nat.mul_one]
  rfl
def bentL : List Str := ["", "u", "+", "u+", "a=", "x", "u+rw ", "ou-x", "g+ug", "o-Xx", "u=r=w", "ugo-r", "g=u\n"]
def spBent : Sp := fun vs H Q _ => ∃ (p lc : Addr) (n : Nat) (s : Str), vs = [.ref p, .str s] ∧ PenL H p lc n ∧ n + 3 ≤ 100000 ∧ s.cps.size ≤ 400 ∧ ∀ (s2 : Str) H', s2.cps.size ≤ 2 * s.cps.size + 12 → ExP p H H' → PenL H' p lc (n + 3) → Q (.str s2) H'
section
variable {P : Program} {w : World} {K : PySem.W.Frag} {mg : Str → Option Value} {base : Heap} {a : Ads}
theorem ok_bent (T : Txt w K mg a) : FnOk P w K mg base CX0 3 a.f__law_bent a.d__law_bent ["_law_pen_here", "_law_text_so"] spBent := by
  have G__law_draw : FnOk P w K mg base CX0 2 _ _ _ _ := (ok_draw T).mono (by decide)
  have G__law_pick : FnOk P w K mg base CX0 2 _ _ _ _ := ok_pick T
  refine T.fn__law_bent.ok sc__law_bent (fun vs H Q E h => ?_) (fun cdv A outer st H vs Q E hr h => ?_)
  · obtain ⟨_, _, _, _, rfl, _⟩ := h
    rfl
  · obtain ⟨p, lc, n, s, rfl, pen, hn, sz, k⟩ := h
    have hrc : Room 2 _ := hr
    refine ⟨_, (pss_cons (ps_set (i := 2) sc__law_bent.nd rfl (Or.inl rfl) (pe_split (pv 1) pe_str))
    (pss_cons (ps_set (i := 3) sc__law_bent.nd rfl (Or.inl rfl) (pe_call G__law_draw hrc rfl T.mg__law_draw T.fn__law_draw.kp (bd__law_draw T) .nil pass0 (pa_cons (pv 0) (pa_cons (pe_callB call_len_seq (by rfl) T.b_len PySem.boot_len (pa_cons (pv 2) pa_nil)) pa_nil))))
    (pss_cons (ps_set (i := 4) sc__law_bent.nd rfl (Or.inl rfl) (pe_lst (pa_cons pe_str (pa_cons pe_str (pa_cons pe_str (pa_cons pe_str (pa_cons pe_str (pa_cons pe_str (pa_cons pe_str (pa_cons pe_str (pa_cons pe_str (pa_cons pe_str (pa_cons pe_str (pa_cons pe_str (pa_cons pe_str pa_nil)))))))))))))))
    (pss_cons (ps_par (i := 5) (j := 6) rfl sc__law_bent.nd rfl rfl (by decide) rfl rfl (pa_cons (pe_call G__law_draw hrc rfl T.mg__law_draw T.fn__law_draw.kp (bd__law_draw T) .nil pass0 (pa_cons (pv 0) (pa_cons pe_int pa_nil))) (pa_cons (pe_call G__law_pick hrc rfl T.mg__law_pick T.fn__law_pick.kp (bd__law_pick T) .nil pass0 (pa_cons (pv 0) (pa_cons (pv 4) pa_nil))) pa_nil)) (by rfl))
    (pss_cons (ps_if (pt_cmpR op_eq (pv 5) pe_int (nomark _)) (pss_one (ps_ret (pe_join pe_str (pe_op op_cat (pe_slice sl_list (pv 2) po_none (po_some (pv 3))) (pe_slice sl_list (pv 2) (po_some (pe_op op_add (pv 3) pe_int)) po_none))))) pss_nil)
    (pss_cons (ps_if (pt_cmpR op_eq (pv 5) pe_int (nomark _)) (pss_one (ps_ret (pe_join pe_str (pe_op op_cat (pe_slice sl_list (pv 2) po_none (po_some (pe_op op_add (pv 3) pe_int))) (pe_slice sl_list (pv 2) (po_some (pv 3)) po_none))))) pss_nil)
    (pss_one (ps_ret (pe_join pe_str (pe_op op_cat (pe_op op_cat (pe_slice sl_list (pv 2) po_none (po_some (pv 3))) (pe_lst (pa_cons (pv 6) pa_nil))) (pe_slice sl_list (pv 2) (po_some (pe_op op_add (pv 3) (pe_callTy call_int1 (by rfl) T.b_int (by decide +kernel) (pa_cons (pe_cmpR op_eq (pv 5) pe_int (nomark _)) pa_nil)))) po_none))))))))))), ?_⟩
    refine q_asgL (xs := (Txt.split s ",").map V.str) (fun H1' e1' Q' q' => ⟨_, rfl, ⟨s, rfl⟩, s, ",", rfl, rfl, by decide +kernel, by show s.length + 2 ≤ sizeLine; exact Nat.le_trans (Nat.add_le_add_right (show s.length ≤ 400 from sz) 2) (by decide), fun pr hpr => q' pr _ hpr (Ex.new hpr) upd_same⟩) fun pr H1 hpr e1 hp1 => ?_
    have ne := split_ne s
    have ms := split_mass s
    generalize Txt.split s "," = ps at hp1 ne ms
    have len : ps.length ≤ 401 := by unfold mass at ms; omega
    have pos : 0 < ps.length := by
      cases ps with
      | nil => exact absurd rfl ne
      | cons _ _ => simp
    have pp : pr ≠ p := pen.pen.ne_new hpr
    refine q_asgD (draw_r (p := p) (lc := lc) ps.length rfl (ev_is (ev_lenS (K := K) (ev_var rfl) (sq_of hp1)) (by rw [List.length_map])) (pen.keep e1) (by omega) pos (by omega) fun d H2 hd e2 pen2 => ?_)
    have hp2 := e2.ex _ _ hp1 pp
    refine q_asgL (xs := bentL.map V.str) (el_lst (ea_cons ev_c (ea_cons ev_c (ea_cons ev_c (ea_cons ev_c (ea_cons ev_c (ea_cons ev_c (ea_cons ev_c (ea_cons ev_c (ea_cons ev_c (ea_cons ev_c (ea_cons ev_c (ea_cons ev_c (ea_cons ev_c ea_nil))))))))))))) (by show 13 ≤ 100000; decide)) fun l3 H3 hl3 e3 h3 => ?_
    have l3p : l3 ≠ p := pen2.pen.ne_new hl3
    refine q_parD (draw_r (p := p) (lc := lc) 4 rfl ev_c (pen2.keep e3) (by omega) (by decide) (by decide) fun w4 H4 hw4 e4 pen4 => pick_raw rfl (ev_raw (ev_var rfl) fun H5 e5 => pk_list (lc := lc) (pen4.keep e5) (by omega) (e5 _ _ (e4.ex _ _ h3 l3p)) l3p (by show 0 < 13; decide) (by show 13 ≤ 1000; decide) fun x6 H6 hx6 e6 pen6 => ⟨_, _, rfl, ?_⟩))
    obtain ⟨wd, hwd, rfl⟩ := mem_strs hx6
    have wz := (by decide +kernel : ∀ c ∈ bentL, c.cps.size ≤ 6) wd hwd
    have x26 : ExP p H2 H6 := (((ExP.of e3).trans e4).trans (ExP.of e5)).trans e6
    have hp6 := x26.ex _ _ hp2 pp
    have x06 : ExP p H H6 := ((ExP.of e1).trans e2).trans x26
    have cat := fun (j : Nat) => (mass_cut ps j)
    refine q_when (b := decide (V.int (w4 : Nat) = V.int 0)) (et_test (ev_op (ev_var rfl) ev_c (rv_eq rfl))) (fun hb H7 e7 => ?_) fun hb H7 e7 => ?_
    · have m1 := mass_app (ps.take d) (ps.drop (d + 1))
      have c1 := (cat d).1
      have c2 := (cat (d + 1)).2
      have j1 := join_mass (ps.take d ++ ps.drop (d + 1))
      exact s_ret (v := .str (Txt.join "," (ps.take d ++ ps.drop (d + 1)))) (ev_join ev_c (el_is (el_cat (el_hi (K := K) (ev_var rfl) (ev_var rfl) (e7 _ _ hp6)) (fun H8 e8 => el_lo (K := K) (k := d + 1) (ev_var rfl) (ev_op (ev_var rfl) ev_c rv_I0) ((e7.trans e8) _ _ hp6)) (by rw [List.length_take, List.length_drop, List.length_map]; omega)) (by rw [List.map_append, List.map_take, List.map_drop])) (by rw [mass_sum]; omega)) fun H8 e8 => k _ H8 (by omega) (x06.trans (ExP.of (e7.trans e8))) ((pen6.keep (e7.trans e8)).more (by omega))
    refine q_when (b := decide (V.int (w4 : Nat) = V.int 1)) (et_test (ev_op (ev_var rfl) ev_c (rv_eq rfl))) (fun hb2 H8 e8 => ?_) fun hb2 H8 e8 => ?_
    · have m1 := mass_app (ps.take (d + 1)) (ps.drop d)
      have c1 := (cat (d + 1)).1
      have c2 := (cat d).2
      have j1 := join_mass (ps.take (d + 1) ++ ps.drop d)
      exact s_ret (v := .str (Txt.join "," (ps.take (d + 1) ++ ps.drop d))) (ev_join ev_c (el_is (el_cat (el_hi (K := K) (k := d + 1) (ev_var rfl) (ev_op (ev_var rfl) ev_c rv_I0) ((e7.trans e8) _ _ hp6)) (fun H9 e9 => el_lo (K := K) (ev_var rfl) (ev_var rfl) (((e7.trans e8).trans e9) _ _ hp6)) (by rw [List.length_take, List.length_drop, List.length_map]; omega)) (by rw [List.map_append, List.map_take, List.map_drop])) (by rw [mass_sum]; omega)) fun H9 e9 => k _ H9 (by omega) (x06.trans (ExP.of ((e7.trans e8).trans e9))) ((pen6.keep ((e7.trans e8).trans e9)).more (by omega))
    · obtain ⟨j, hj, ej⟩ : ∃ j : Nat, d ≤ j ∧ ((d : Nat) : Int) + (if decide (V.int (w4 : Nat) = V.int 2) = true then 1 else 0) = (j : Nat) := by
        by_cases h : decide (V.int (w4 : Nat) = V.int 2) = true
        · exact ⟨d + 1, by omega, by rw [if_pos h]; omega⟩
        · exact ⟨d, by omega, by rw [if_neg h]; omega⟩
      have m1 := mass_app (ps.take d ++ [wd]) (ps.drop j)
      have m2 := mass_app (ps.take d) [wd]
      have m3 : mass [wd] ≤ 7 := by unfold mass; simp; omega
      have c1 := (cat d).1
      have c2 := (cat j).2
      have j1 := join_mass (ps.take d ++ [wd] ++ ps.drop j)
      exact s_ret (v := .str (Txt.join "," (ps.take d ++ [wd] ++ ps.drop j))) (ev_join ev_c (el_is (el_cat (el_cat (el_hi (K := K) (ev_var rfl) (ev_var rfl) ((e7.trans e8) _ _ hp6)) (fun H9 e9 => el_lst (vs := [.str wd]) (ea_cons (ev_var rfl) ea_nil) (by show 1 ≤ 100000; decide)) (by rw [List.length_take, List.length_map]; show _ + 1 ≤ _; omega)) (fun H9 e9 => el_lo (K := K) (k := j) (ev_var rfl) (ev_is (ev_op (ev_var rfl) (ev_intB (ev_op (ev_var rfl) ev_c (rv_eq rfl))) rv_I0) (congrArg V.int ej)) (((e7.trans e8).trans e9) _ _ hp6)) (by rw [List.length_append, List.length_take, List.length_drop, List.length_map]; show _ + 1 + _ ≤ _; omega)) (by rw [List.map_append, List.map_append, List.map_take, List.map_drop]; rfl)) (by rw [mass_sum]; omega)) fun H9 e9 => k _ H9 (by omega) (x06.trans (ExP.of ((e7.trans e8).trans e9))) ((pen6.keep ((e7.trans e8).trans e9)).more (by omega))
end
end KL
set_option Elab.async false
set_option linter.all false
set_option maxRecDepth 100000
set_option maxHeartbeats 4000000
namespace KL
open PySem PySem.Spec PyProof.Rows L2 Evl KF
local macro_rules | `(tactic| walk_at "ev") => `(tactic| repeat' (first | exact ev_c | exact ev_var rfl | exact rv_I0 | refine' rv_I ?_ | refine' rv_eq ?_ | refine' rv_ne ?_ | refine' ev_op ?_ ?_ ?_ | exact ea_nil | refine' ea_cons ?_ ?_ | refine' et_test ?_ | refine' et_B ?_ | refine' et_not ?_ | refine' ev_notV ?_))

open PySem LamX KErr
/-! ### a change of no to ten values, made right -/
def Loc (p : Addr) (B : Hp → V → Prop) : Prop := ∀ (H H' : Hp) x, B H x → (∀ l o, x = .ref l → l ≠ p → H l = some o → H' l = some o) → B H' x
theorem Loc.stb {p : Addr} {B : Hp → V → Prop} (h : Loc p B) {H H' : Hp} {x : V} (b : B H x) (e : ExB p H H') : B H' x := h H H' x b fun l o _ ne ho => e l o ho ne
theorem lc_rng1 {ta : TA} {g : TG} {tt : TT} {te : TE} {vs : List Nat} {σ : L2.St} {H : Hp} {Q : VK} (h : ta σ H fun ws H1 => ∃ j : Int, ws = [.int j] ∧ -(2 ^ 62) ≤ j ∧ j < 2 ^ 62 ∧ tLc (fun _ H R => R (Itr 0 j.toNat) H) g tt te vs σ H1 Q) : tLc (iRng1 ta) g tt te vs σ H Q := h
/-- a comprehension over range(..) whose new items move the pen -/
theorem lc_penN {σ : L2.St} {H1 : Hp} {te : TE} {vs : List Nat} {j n step k : Nat} {p lc : Addr} {B : Hp → V → Prop} {Q : VK} (hw : ∀ x, wipe ((wipe σ vs).set j (some x)) vs = wipe σ vs) (st : Loc p B) (pen : PenL H1 p lc k) (hn : n ≤ 1000)
    (he : ∀ (i : Nat) H3 (QQ : VK), i < n → ExP p H1 H3 → PenL H3 p lc (k + i * step) → (∀ y H4, B H4 y → (∀ l, y = .ref l → H3 l = none) → ExP p H3 H4 → PenL H4 p lc (k + (i + 1) * step) → QQ y H4) → te ((wipe σ vs).set j (some (.int (i : Nat)))) H3 QQ)
    (q : ∀ Dl xs H', H1 Dl = none → xs.length = n → (∀ x ∈ xs, B H' x) → ExP p H1 H' → PenL H' p lc (k + n * step) → H' Dl = some (.lst xs) → Q (.ref Dl) H') :
    tLc (fun _ H R => R (Itr 0 n) H) (gName j) tYes te vs σ H1 Q := fun Dl hD => by
  obtain ⟨np, nl⟩ := pen.ne hD
  refine lc_range (lo := 0) (n := n) (fun i H' => ∃ xs : List V, xs.length = i ∧ (∀ x ∈ xs, B H' x ∧ x ≠ .ref Dl) ∧ ExP p H1 H' ∧ PenL H' p lc (k + i * step) ∧ H' Dl = some (.lst xs)) ⟨[], rfl, (fun _ z => nomatch z), ExP.of (Ex.new hD), (pen.keep (Ex.new hD)).more (by omega), upd_same⟩ (fun t H' hi' qq => ⟨hw _, (et_yes : EvT tYes _ H' true) H' (Ex.refl _) _ fun H3 e3 => ?_⟩) (fun H' qq => ?_)
  · obtain ⟨xs, hl, all, e, b, hd⟩ := qq
    have e := e.trans (ExP.of e3)
    have b := b.keep e3
    have hd := e3 _ _ hd
    have e0 : (0 : Int) + (t : Int) = (t : Int) := Int.zero_add _
    rw [e0]
    show te _ H3 _
    refine he t H3 _ hi' e b fun y H4 by4 fy e4 b4 => ⟨xs, e4.ex _ _ hd (Ne.symm np), by rw [hl]; exact Nat.lt_of_lt_of_le (Nat.lt_of_lt_of_le hi' hn) (by decide), xs ++ [y], by rw [List.length_append, hl] <;> rfl, fun z hz => ?_, ⟨fun b' o ho ne => ?_, fun l2 x2 y2 h2 => ?_⟩, b4.upd np nl, upd_same⟩
    · have new : y ≠ .ref Dl := fun z => by
        have := fy Dl z
        rw [hd] at this
        cases this
      have grow : ∀ z, B H4 z → z ≠ .ref Dl → B (upd H4 Dl (.lst (xs ++ [y]))) z := fun z bz ne => st _ _ _ bz fun l o ez _ ho => by rw [upd_ne (fun el => ne (by rw [ez, el]))]; exact ho
      rcases List.mem_append.mp hz with hz | hz
      · exact ⟨grow z (st.stb (all z hz).1 ((ExB.of e3).trans e4.ex)) (all z hz).2, (all z hz).2⟩
      · rw [List.mem_singleton.mp hz]
        exact ⟨grow y by4 new, new⟩
    · rw [upd_ne (ne_of_none ho hD)]
      exact (e.trans e4).ex _ _ ho ne
    · obtain ⟨x3, y3, h3⟩ := (e.trans e4).fix l2 x2 y2 h2
      exact ⟨x3, y3, by rw [upd_ne np]; exact h3⟩
  · obtain ⟨xs, hl, all, e, b, hd⟩ := qq
    exact q Dl xs H' hD hl (fun x hx => (all x hx).1) e b hd
/-- a drawn clause, told -/
def ClV (p : Addr) (H : Hp) (x : V) : Prop := ∃ (t : Addr) (c : Cl), x = .ref t ∧ t ≠ p ∧ H t = some (.tup [.str c.1, .str c.2.1, .str c.2.2]) ∧ clOk c
theorem loc_clv {p : Addr} : Loc p (ClV p) := fun H H' x ⟨t, c, e, ne, h, ok⟩ k => ⟨t, c, e, ne, k t _ e ne h, ok⟩
theorem told_of {p : Addr} {H : Hp} : ∀ {xs : List V}, (∀ x ∈ xs, ClV p H x) → ∃ cs : List Cl, xs.length = cs.length ∧ (∀ c ∈ cs, clOk c) ∧ ∀ (i : Nat) (y : V) (c : Cl), xs[i]? = some y → cs[i]? = some c → Told3 H y c
  | [], _ => ⟨[], rfl, (fun _ z => nomatch z), (fun i y c z => nomatch z)⟩
  | x :: xs, h => by
    obtain ⟨cs, h1, h2, h3⟩ := told_of fun y hy => h y (List.mem_cons_of_mem _ hy)
    obtain ⟨t, c, e, _, ht, ok⟩ := h x (List.mem_cons_self ..)
    refine ⟨c :: cs, by rw [List.length_cons, List.length_cons, h1], fun d hd => ?_, fun i y d hy hd => ?_⟩
    · rcases List.mem_cons.mp hd with rfl | hd
      · exact ok
      · exact h2 d hd
    · cases i with
      | zero =>
        cases hy
        cases hd
        exact ⟨t, e, ht⟩
      | succ i => exact h3 i y d hy hd
/-- n drawn clauses in a list -/
theorem lc_cls {σ : L2.St} {H1 : Hp} {vs : List Nat} {iv j n k : Nat} {p lc : Addr} {Q : VK} {E : XK} (hw : ∀ x, wipe ((wipe σ vs).set j (some x)) vs = wipe σ vs) (hs : ∀ x, ((wipe σ vs).set j (some x))[iv]? = some (some (.ref p))) (pen : PenL H1 p lc k) (hn : n ≤ 1000) (hk : k + n * 3 + 3 ≤ 100000)
    (q : ∀ Dl cs H', H1 Dl = none → cs.length = n → (∀ c ∈ cs, clOk c) → ExP p H1 H' → PenL H' p lc (k + n * 3) → ToldL H' Dl cs → Dl ≠ p → Q (.ref Dl) H') :
    tLc (fun _ H R => R (Itr 0 n) H) (gName j) tYes (tCall spCl [] E (tCons (tVar iv) tNil)) vs σ H1 Q :=
  lc_penN (step := 3) hw loc_clv pen hn (fun i H3 QQ hi e3 pen3 kq => ⟨.ref p, hs _, p, lc, k + i * 3, rfl, pen3, by omega, fun t who sign what H4 ht x4 pen4 h4 ok4 => kq (.ref t) H4 ⟨t, (who, sign, what), rfl, pen3.pen.ne_new ht, h4, ok4⟩ (fun l e => by cases e; exact ht) x4 (pen4.more (by omega))⟩) fun Dl xs H' hD hl all e pen' h => by
    obtain ⟨cs, c1, c2, c3⟩ := told_of all
    exact q Dl cs H' hD (by rw [← c1, hl]) c2 e pen' ⟨xs, h, c1, c3⟩ (pen.pen.ne_new hD)
theorem KeepT.ofS {p : Addr} {n : Nat} {H H' : Hp} (pen : PenAt H p n) (e : StP p H H') : KeepT H H' := by
  obtain ⟨l, ns, a0, r0, g1, _⟩ := pen
  exact ⟨fun b xs h => e _ _ h (ne_of h g1 fun z => nomatch z) (fun _ z => nomatch z), fun b C dx f fs h => e _ _ h (ne_of h g1 fun z => nomatch z) (fun _ z => nomatch z)⟩
theorem ToldL.st {p l : Addr} {n : Nat} {H H' : Hp} {cs : List Cl} (h : ToldL H l cs) (pen : PenAt H p n) (ne : l ≠ p) (e : StP p H H') : ToldL H' l cs := let ⟨ys, h1, h2, h3⟩ := h; ⟨ys, e _ _ h1 ne (fun _ z => nomatch z), h2, fun i y c a b => (h3 i y c a b).kt (KeepT.ofS pen e)⟩
/-- a clause, or an odd value: under all that the law does -/
def FitP (a : Ads) (p : Addr) (H : Hp) (x : V) : Option Cl → Prop
  | some c => ∃ q, x = .ref q ∧ ClauseAt a H q c.1 c.2.1 c.2.2
  | none => AnyP p H x
theorem FitP.st {a : Ads} {p : Addr} {n : Nat} {H H' : Hp} {x : V} {c : Option Cl} (h : FitP a p H x c) (pen : PenAt H p n) (e : StP p H H') : FitP a p H' x c := by
  match c, h with
  | some c, ⟨q, ex, cl⟩ => exact ⟨q, ex, cl.kt (KeepT.ofS pen e)⟩
  | none, h => exact AnyP.st h e
def FitsP (a : Ads) (p : Addr) (H : Hp) (xs : List V) (cs : List (Option Cl)) : Prop := xs.length = cs.length ∧ ∀ (i : Nat) (x : V) (c : Option Cl), xs[i]? = some x → cs[i]? = some c → FitP a p H x c
theorem FitsP.st {a : Ads} {p : Addr} {n : Nat} {H H' : Hp} {xs : List V} {cs : List (Option Cl)} (h : FitsP a p H xs cs) (pen : PenAt H p n) (e : StP p H H') : FitsP a p H' xs cs := ⟨h.1, fun i x c a b => (h.2 i x c a b).st pen e⟩
theorem FitsP.fits {a : Ads} {p : Addr} {H : Hp} {xs : List V} {cs : List (Option Cl)} (h : FitsP a p H xs cs) : Fits a H xs cs := ⟨h.1, fun i x c hx hc => by
  have := h.2 i x c hx hc
  match c, this with
  | some c, q => exact q
  | none, q => exact AnyP.any q⟩
theorem FitsP.app {a : Ads} {p : Addr} {H : Hp} {xs ys : List V} {cs ds : List (Option Cl)} (h : FitsP a p H xs cs) (g : FitsP a p H ys ds) : FitsP a p H (xs ++ ys) (cs ++ ds) := by
  refine ⟨by rw [List.length_append, List.length_append, h.1, g.1], fun i x c hx hc => ?_⟩
  by_cases hi : i < xs.length
  · rw [List.getElem?_append_left hi] at hx
    rw [List.getElem?_append_left (by rw [← h.1]; exact hi)] at hc
    exact h.2 i x c hx hc
  · have hi : xs.length ≤ i := Nat.le_of_not_lt hi
    rw [List.getElem?_append_right hi] at hx
    rw [h.1] at hx hi
    rw [List.getElem?_append_right hi] at hc
    exact g.2 _ x c hx hc
theorem FitsP.take {a : Ads} {p : Addr} {H : Hp} {xs : List V} {cs : List (Option Cl)} (h : FitsP a p H xs cs) (k : Nat) : FitsP a p H (xs.take k) (cs.take k) := ⟨by rw [List.length_take, List.length_take, h.1], fun i x c hx hc => by
  have hi : i < k := by
    have := (List.getElem?_eq_some_iff.mp hx).1
    rw [List.length_take] at this
    omega
  rw [List.getElem?_take_of_lt hi] at hx hc
  exact h.2 i x c hx hc⟩
theorem FitsP.drop {a : Ads} {p : Addr} {H : Hp} {xs : List V} {cs : List (Option Cl)} (h : FitsP a p H xs cs) (k : Nat) : FitsP a p H (xs.drop k) (cs.drop k) := ⟨by rw [List.length_drop, List.length_drop, h.1], fun i x c hx hc => by
  rw [List.getElem?_drop] at hx hc
  exact h.2 _ x c hx hc⟩
theorem FitsP.cls {a : Ads} {p : Addr} {H : Hp} {ps : List Addr} {ds : List Cl} (m : ClsAt a H ps ds) : FitsP a p H (ps.map V.ref) (ds.map some) := ⟨by rw [List.length_map, List.length_map, m.1], fun i x c hx hc => by
  rw [List.getElem?_map] at hx hc
  obtain ⟨q, hq, rfl⟩ := Option.map_eq_some_iff.mp hx
  obtain ⟨d, hd, rfl⟩ := Option.map_eq_some_iff.mp hc
  exact ⟨q, rfl, m.2 i q d hq hd⟩⟩
section
variable {K : PySem.W.Frag} {σ : L2.St} {H : Hp} {ta tb t8 : TE} {x1 x2 x3 x4 x5 x6 x7 : V} {Q : VK} {xs : List V} {D : Ends} {tt : TT} {tu tz : TS}
theorem lst8_raw (h : t8 σ H fun v H1 => [x1, x2, x3, x4, x5, x6, x7, v].length ≤ sizeLine ∧ ∀ l, H1 l = none → Q (.ref l) (upd H1 l (.lst [x1, x2, x3, x4, x5, x6, x7, v]))) : tLst (tCons (tC x1) (tCons (tC x2) (tCons (tC x3) (tCons (tC x4) (tCons (tC x5) (tCons (tC x6) (tCons (tC x7) (tCons t8 tNil)))))))) σ H Q := h
theorem lst1_raw (h : ta σ H fun v H1 => [v].length ≤ sizeLine ∧ ∀ l, H1 l = none → Q (.ref l) (upd H1 l (.lst [v]))) : tLst (tCons ta tNil) σ H Q := h
theorem cat_raw (h : ta σ H fun x H1 => tb σ H1 fun y H2 => ∃ (p q : Addr) (xs ys : List V), x = .ref p ∧ y = .ref q ∧ H2 p = some (.lst xs) ∧ H2 q = some (.lst ys) ∧ xs.length + ys.length ≤ sizeLine ∧ ∀ c, H2 c = none → Q (.ref c) (upd H2 c (.lst (xs ++ ys)))) : tOp rCat ta tb σ H Q := h
theorem add_raw {i : Int} (h : tb σ H fun y H2 => ∃ i' j' : Int, V.int i = .int i' ∧ y = .int j' ∧ Q (.int (i' + j')) H2) : tOp (rI0 fun i j => .int (i + j)) (tC (.int i)) tb σ H Q := h
theorem q_ifRaw {M : L2.St → Hp → Prop} (h : (∀ σ2 H2, M σ2 H2 → tz D σ2 H2) → tt σ H fun b H1 => if b = true then tu { D with nx := tz D } σ H1 else tz D σ H1) (k : ∀ σ2 H2, M σ2 H2 → tz D σ2 H2) : tSeq (tIfS tt tu tNext) tz D σ H := h k
theorem iteC {b : Bool} {p q : Prop} (h1 : b = true → p) (h2 : b = false → q) : if b = true then p else q := by
  cases b with
  | true => exact h1 rfl
  | false => exact h2 rfl
theorem s_asgD2 {i : Nat} (h : ta σ H fun v H1 => D.nx (σ.set i (some v)) H1) : tAsg ta (gName i) D σ H := h
theorem q_asgD2 {i : Nat} (h : ta σ H fun v H1 => tz D (σ.set i (some v)) H1) : tSeq (tAsg ta (gName i)) tz D σ H := h
end
theorem rv_notN {H : Hp} {x : V} : RV (fun x y H Q => y = .non ∧ Q (.bl (!decide (x = .non))) H) x .non H (.bl (!decide (x = .non))) := fun H1 _ _ q => ⟨rfl, q H1 (Ex.refl H1)⟩
theorem eqcall_raw {σ : L2.St} {H : Hp} {te tb : TE} {r : R2} {sp : Sp} {E : XK} {Q : VK} (h : te σ H fun v H1 => sp ([v] ++ []) H1 (fun x H2 => tb σ H2 fun y H3 => r x y H3 Q) E) : tOp r (tCall sp [] E (tCons te tNil)) tb σ H Q := h
theorem q_asgIf {σ : L2.St} {H : Hp} {te : TE} {D : Ends} {tz : TS} {i : Nat} (M : V → Hp → Prop) (h : ∀ Q : VK, (∀ v H1, M v H1 → Q v H1) → te σ H Q) (k : ∀ v H1, M v H1 → tz D (σ.set i (some v)) H1) : tSeq (tAsg te (gName i)) tz D σ H := h _ k
theorem DueV.ne {H : Hp} {v : V} {r : Option (Option Nat)} (h : DueV H v r) : decide (v = .non) = decide (r = none) := by
  match r, h with
  | none, h => rw [show v = .non from h]; rfl
  | some r, ⟨t, e, _⟩ => rw [e]; rfl
def spMR (a : Ads) : Sp := fun vs H Q _ => ∃ (p lc : Addr) (n : Nat), vs = [.ref p] ∧ PenL H p lc n ∧ n + 40 ≤ 100000 ∧ Tabs (tabsT a) H ∧ ∀ H', PenL H' p lc (n + 40) → Tabs (tabsT a) H' → StP p H H' → Q (.bl true) H'
section
variable {P : Program} {w : World} {K : PySem.W.Frag} {mg : Str → Option Value} {base : Heap} {a : Ads}
theorem ok_made_right (T : Txt w K mg a) (TBM : TabB base mg a.cM a.PM) : FnOk P w K mg base CX0 12 a.f__law_made_right a.d__law_made_right ["_law_pen_here"] (spMR a) := by
  obtain ⟨ocR, odR, kVR, docR, pmR, anR, ctR, oslR, eR, lkR⟩ := T.crM
  rw [eR] at lkR
  rw [eR]
  have G__law_draw : FnOk P w K mg base CX0 11 _ _ _ _ := (ok_draw T).mono (by decide)
  have G__law_pick : FnOk P w K mg base CX0 11 _ _ _ _ := (ok_pick T).mono (by decide)
  have G__law_clause : FnOk P w K mg base CX0 11 _ _ _ _ := (ok_cl T).mono (by decide)
  have G__law_made : FnOk P w K mg base CX0 11 _ _ _ _ := (ok_made T).mono (by decide)
  have G__law_shown : FnOk P w K mg base CX0 11 _ _ _ _ := (ok_shown T).mono (by decide)
  have L__law_call : FnOk P w K mg base (L2.CX P w) 8 _ _ _ _ := ok_call T
  refine fn_of lkR T.crM_code sc__law_made_right (fun vs H Q E h => ?_) fun A outer s H vs Q E hr h => ?_
  · obtain ⟨_, _, _, rfl, _⟩ := h
    rfl
  · obtain ⟨p, lc, n, rfl, pen, hn, tab, k⟩ := h
    have hrc : Room 11 _ := hr
    have hr10 : Room 10 _ := hrc.mono (by decide)
    obtain ⟨ocH, odH, kVH, docH, pmH, anH, cdvH, ctH, oslH, eH, lkH, hcdH⟩ := id T.fn__law_heard.ex
    have hbH := bd__law_heard T
    rw [eH] at lkH hbH
    refine ⟨_, (show PSs (cxOf CX0 P w K mg base n__law_made_right "_law_made_right" (defScope s__law_made_right) a.f__law_made_right (.ref a.cM) A outer s H E).nox (defBody s__law_made_right) _ from (pss_cons (ps_set (i := 1) sc__law_made_right.nd rfl (Or.inl rfl) (pe_lst (pa_cons pe_non (pa_cons pe_int (pa_cons pe_bl (pa_cons pe_str (pa_cons (pe_tup (pa_cons pe_str (pa_cons pe_str (pa_cons pe_str pa_nil)))) (pa_cons (pe_lst (pa_cons pe_str pa_nil)) (pa_cons pe_dnewK pa_nil)))))))))
    (pss_cons (ps_setLc (i := 2) (own := [("_law_k", 8)]) (g := gName 8) rfl sc__law_made_right.nd rfl rfl (sw_true rfl rfl rfl (by decide +kernel)) (pi_range1 rfl T.b_range (pa_cons (pe_call G__law_pick hrc rfl T.mg__law_pick T.fn__law_pick.kp (bd__law_pick T) .nil pass0 (pa_cons (pv 0) (pa_cons (pe_lst (pa_cons pe_int (pa_cons pe_int (pa_cons pe_int (pa_cons pe_int (pa_cons pe_int (pa_cons pe_int (pa_cons pe_int (pa_cons (pe_op op_add pe_int (pe_call G__law_draw hrc rfl T.mg__law_draw T.fn__law_draw.kp (bd__law_draw T) .nil pass0 (pa_cons (pv 0) (pa_cons pe_int pa_nil)))) pa_nil))))))))) pa_nil))) pa_nil)) (blkOk_by (own := [("_law_k", 8)]) (N := n__law_made_right) (sc := defScope s__law_made_right) (by decide +kernel)) (fun _ _ _ _ _ => (pg_name (i := 8) sc__law_made_right.nd rfl (Or.inl rfl))) (fun _ _ _ _ _ => pts_nil) (fun _ _ _ _ _ => (pe_call G__law_clause hrc rfl T.mg__law_clause T.fn__law_clause.kp (bd__law_clause T) .nil pass0 (pa_cons (pv 0) pa_nil))))
    (pss_cons (ps_set (i := 7) sc__law_made_right.nd rfl (Or.inr rfl) (pe_call G__law_made hrc rfl T.mg__law_made T.fn__law_made.kp (bd__law_made T) .nil pass0 (pa_cons (pv 2) pa_nil)))
    (pss_cons (ps_if (PW.pt (pw_and (pt_cmpR (KV.op_neNilL rfl hr.units) (pv 7) (pe_lst pa_nil) (nomark _)) (pw_and1 (pt_cmpR op_eq (pe_call G__law_draw hrc rfl T.mg__law_draw T.fn__law_draw.kp (bd__law_draw T) .nil pass0 (pa_cons (pv 0) (pa_cons pe_int pa_nil))) pe_int (nomark _))))) (pss_cons (ps_set (i := 3) sc__law_made_right.nd rfl (Or.inl rfl) (pe_call G__law_draw hrc rfl T.mg__law_draw T.fn__law_draw.kp (bd__law_draw T) .nil pass0 (pa_cons (pv 0) (pa_cons (pe_callB call_len_seq (by rfl) T.b_len PySem.boot_len (pa_cons (pv 7) pa_nil)) pa_nil))))
    (pss_one (ps_set (i := 7) sc__law_made_right.nd rfl (Or.inr rfl) (pe_op op_cat (pe_op op_cat (pe_slice sl_list (pv 7) po_none (po_some (pv 3))) (pe_lst (pa_cons (pe_call G__law_pick hrc rfl T.mg__law_pick T.fn__law_pick.kp (bd__law_pick T) .nil pass0 (pa_cons (pv 0) (pa_cons (pv 1) pa_nil))) pa_nil))) (pe_slice sl_list (pv 7) (po_some (pe_op op_add (pv 3) pe_int)) po_none))))) pss_nil)
    (pss_cons (ps_set (i := 4) sc__law_made_right.nd rfl (Or.inl rfl) (pe_ifExp (pt_cmpR (KV.op_eqNilL rfl hr.units) (pv 7) (pe_lst pa_nil) (nomark _)) (pe_tup (pa_cons pe_str (pa_cons pe_int pa_nil))) pe_non))
    (pss_cons (ps_setLc (i := 5) (own := [("_law_at", 9)]) (g := gName 9) rfl sc__law_made_right.nd rfl rfl (sw_true rfl rfl rfl (by decide +kernel)) (pi_range1 rfl T.b_range (pa_cons (pe_callB call_len_seq (by rfl) T.b_len PySem.boot_len (pa_cons (pv 7) pa_nil)) pa_nil)) (blkOk_by (own := [("_law_at", 9)]) (N := n__law_made_right) (sc := defScope s__law_made_right) (by decide +kernel)) (fun _ _ _ _ _ => (pg_name (i := 9) sc__law_made_right.nd rfl (Or.inl rfl))) (fun _ _ _ _ _ => (pts_one (pt_not (pt_val (pe_callB (call_isiE (K := K) rfl) (by rfl) T.b_isinstance PyProof.Rows.boot_isinstance (pa_cons (pe_ix (r := rIxL K) ix_list (pv 7) (pv 9) (fun _ _ => rfl)) (pa_cons (pe_glob (v := .ref a.f_Clause) rfl T.mg_Clause rfl) pa_nil))))))) (fun _ _ _ _ _ => (pv 9)))
    (pss_cons (ps_set (i := 4) sc__law_made_right.nd rfl (Or.inl rfl) (pe_ifExp (pt_cmpR (KV.op_neNilL rfl hr.units) (pv 5) (pe_lst pa_nil) (nomark _)) (pe_tup (pa_cons pe_str (pa_cons (pe_ix ix_list (pv 5) pe_int (fun _ _ => rfl)) pa_nil))) (pv 4)))
    (pss_cons (ps_set (i := 4) sc__law_made_right.nd rfl (Or.inl rfl) (pe_ifExp (pt_cmpR op_gt (pe_callB call_len_seq (by rfl) T.b_len PySem.boot_len (pa_cons (pv 7) pa_nil)) pe_int (nomark _)) (pe_tup (pa_cons pe_str (pa_cons pe_int pa_nil))) (pv 4)))
    (pss_cons (ps_set (i := 6) sc__law_made_right.nd rfl (Or.inl rfl) (LamX.pe_lamcall (T := tabsT a) (TT := THeard a) rfl T.mg__law_heard T.fn__law_heard.kp lkH hcdH hbH sc__law_heard rfl (Or.inl rfl) (heard_gives T) TBM rfl (List.mem_cons_of_mem _ (List.mem_cons_self ..)) (tabs_uM T) (k := 8) hr10 (LamX.lamS_by (show LamX.lamSB (defScope s__law_made_right) _ = true by decide +kernel)) rfl (fun _ _ _ _ _ => rfl) (fun _ _ _ _ _ _ _ hr2 => (pe_call L__law_call hr2 rfl T.mg__law_call T.fn__law_call.kp (bd__law_call T) .nil (passes_call (takes_of rfl rfl rfl rfl) fun _ _ _ _ h => h) (pa_cons (pv 7) pa_nil)))))
    (pss_one (ps_ret (pe_ifExp (pt_cmpR op_notN (pv 4) pe_non (nomark _)) (pe_cmpR (op_eqD hr.units) (pv 6) (pv 4) (nomark _)) (pe_cmpR (op_eqD hr.units) (pe_call G__law_shown hrc rfl T.mg__law_shown T.fn__law_shown.kp (bd__law_shown T) .nil pass0 (pa_cons (pe_ix ix_list (pv 6) pe_int (fun _ _ => rfl)) pa_nil)) (pv 2) (nomark _))))))))))))))).nox, ?_⟩
    refine q_asgBs (p := p) (k := 7) (ebs_cons eb_non (ebs_cons eb_int (ebs_cons eb_bl (ebs_cons (eb_str (by decide +kernel)) (ebs_cons (eb_ou pen.pen (eu_tup (vs := [.str "u", .str "+", .str "r"]) (ea_cons ev_c (ea_cons ev_c (ea_cons ev_c ea_nil))) (by show 3 ≤ 100000; decide))) (ebs_cons (eb_ol pen.pen (el_lst (vs := [.str "u+r"]) (ea_cons ev_c ea_nil) (by show 1 ≤ 100000; decide))) (ebs_cons (eb_od pen.pen) ebs_nil))))))) (by decide) fun oa os H1 hoa lo e1 h1 all1 => ?_
    have oap : oa ≠ p := pen.pen.ne_new hoa
    have pen1 := pen.keep e1
    have tab1 := tabs_keep tab e1
    refine q_asgD2 (lc_rng1 (pick_raw rfl (lst8_raw (add_raw (draw_r (p := p) (lc := lc) 8 rfl ev_c pen1 (by omega) (by decide) (by decide) fun d H2 hd x2 pen2 => ⟨1, (d : Nat), rfl, rfl, by show 8 ≤ sizeLine; decide, fun l3 hl3 => pk_list (lc := lc) (pen2.keep (Ex.new hl3)) (by omega) upd_same (pen2.pen.ne_new hl3) (by show 0 < 8; decide) (by show 8 ≤ 1000; decide) fun vm H4 hvm x4 pen4 => ?_⟩)))))
    have x14 : ExP p H1 H4 := (x2.trans (ExP.of (Ex.new hl3))).trans x4
    obtain ⟨m, hm, rfl⟩ : ∃ m : Nat, m ≤ 10 ∧ vm = .int (m : Nat) := by
      simp only [List.mem_cons, List.not_mem_nil, or_false] at hvm
      rcases hvm with rfl | rfl | rfl | rfl | rfl | rfl | rfl | rfl
      · exact ⟨0, by decide, rfl⟩
      · exact ⟨1, by decide, rfl⟩
      · exact ⟨2, by decide, rfl⟩
      · exact ⟨3, by decide, rfl⟩
      · exact ⟨8, by decide, rfl⟩
      · exact ⟨9, by decide, rfl⟩
      · exact ⟨10, by decide, rfl⟩
      · exact ⟨1 + d, by omega, by rw [Int.natCast_add]; rfl⟩
    refine ⟨(m : Nat), rfl, by omega, by omega, ?_⟩
    refine lc_cls (n := m) (p := p) (lc := lc) (k := n + 1 + 1) (fun _ => rfl) (fun _ => rfl) (pen4.more (by omega)) (by omega) (by omega) fun tl cs H5 htl hcs okc x5 pen5 told5 tlp => ?_
    have x15 := x14.trans x5
    have pen5 := pen5.more (m := n + 32) (by omega)
    have tab5 := tabs_pen tab1 pen1.pen x15.ex
    have h5 := x15.ex _ _ h1 oap
    have all5 : ∀ x ∈ os, AnyP p H5 x := fun x hx => (all1 x hx).st (StP.ofB x15.ex)
    refine q_asgD ⟨.ref tl, rfl, tl, cs, rfl, told5, okc, by omega, fun sp ps H6 hsp e6 h6 cls6 => ?_⟩
    have spp : sp ≠ p := pen5.pen.ne_new hsp
    have pen6 := pen5.keep e6
    have tab6 := tabs_keep tab5 e6
    have h6o := e6 _ _ h5
    have told6 := told5.mono e6
    have all6 : ∀ x ∈ os, AnyP p H6 x := fun x hx => (all5 x hx).st (StP.of e6)
    have ft6 : FitsP a p H6 (ps.map V.ref) (cs.map some) := FitsP.cls cls6
    have lps : ps.length = cs.length := cls6.1
    have s06 : StP p H H6 := ((StP.of e1).trans (StP.ofB x15.ex)).trans (StP.of e6)
    refine q_ifRaw (M := fun σ2 H7 => ∃ (sl : Addr) (xs : List V) (es : List (Option Cl)) (o3 : Option V), σ2 = [some (.ref p), some (.ref oa), some (.ref tl), o3, none, none, none, some (.ref sl), none, none] ∧ sl ≠ p ∧ H7 sl = some (.lst xs) ∧ FitsP a p H7 xs es ∧ xs.length ≤ 10 ∧ (es = cs.map some ∨ none ∈ es) ∧ PenL H7 p lc (n + 40) ∧ Tabs (tabsT a) H7 ∧ ToldL H7 tl cs ∧ StP p H H7) (fun kM => (show EvT _ _ H6 (!decide (ps.map V.ref = [])) from et_test (KV.ev_eqNilL (K := K) (neg := true) (ev_var rfl) h6 (el_lst (vs := []) ea_nil (by decide)))) H6 (Ex.refl _) _ fun H7 e7 => iteC (fun hb => ?_) fun hb => ?_) fun σ2 H7 ⟨sl, xs, es, o3, eσ, slp, hsl, ft, lx, hes, pen7, tab7, told7, s07⟩ => ?_
    · have pos : 0 < ps.length := by
        cases ps with
        | nil => cases hb
        | cons _ _ => simp
      have pen7 := pen6.keep e7
      have tab7 := tabs_keep tab6 e7
      refine draw_r (p := p) (lc := lc) 3 rfl ev_c pen7 (by omega) (by decide) (by decide) fun d8 H8 hd8 x8 pen8 => ⟨rfl, _, rfl, iteC (fun hb2 => ?_) fun hb2 => ?_⟩
      · have s68 : StP p H6 H8 := (StP.of e7).trans (StP.ofB x8.ex)
        have hs8 := s68 _ _ h6 spp (fun _ z => nomatch z)
        refine q_asgD (draw_r (p := p) (lc := lc) ps.length rfl (ev_is (ev_lenS (K := K) (ev_var rfl) (sq_of hs8)) (by rw [List.length_map])) pen8 (by omega) pos (by omega) fun dk H9 hdk x9 pen9 => ?_)
        have s69 := s68.trans (StP.ofB x9.ex)
        have hs9 := s69 _ _ h6 spp (fun _ z => nomatch z)
        have ho9 := s69 _ _ h6o oap (fun _ z => nomatch z)
        refine s_asgD2 (cat_raw (cat_raw (el_raw (el_hi (K := K) (ev_var rfl) (ev_var rfl) hs9) fun l10 H10 hl10 e10 h10 => lst1_raw (pick_raw rfl (ev_raw (ev_var rfl) fun H11 e11 => pk_list (lc := lc) (pen9.keep (e10.trans e11)) (by omega) ((e10.trans e11) _ _ ho9) oap (by omega) (by omega) fun y H12 hy x12 pen12 => ?_)))))
        have l10p : l10 ≠ p := pen9.pen.ne_new hl10
        have h12 := x12.ex _ _ (e11 _ _ h10) l10p
        have s612 : StP p H6 H12 := s69.trans ((StP.of (e10.trans e11)).trans (StP.ofB x12.ex))
        have ay : AnyP p H12 y := (all6 y hy).st s612
        refine ⟨by show 1 ≤ sizeLine; decide, fun l13 hl13 => ⟨l10, l13, _, _, rfl, rfl, Ex.new hl13 _ _ h12, upd_same, sz_of (by rw [List.length_take, List.length_map]; show _ + 1 ≤ 100000; omega), fun l14 hl14 => ?_⟩⟩
        have e1214 : Ex H12 (upd (upd H12 l13 (.lst [y])) l14 (.lst ((ps.map V.ref).take dk ++ [y]))) := (Ex.new hl13).trans (Ex.new hl14)
        have h14 : (upd (upd H12 l13 (.lst [y])) l14 (.lst ((ps.map V.ref).take dk ++ [y]))) l14 = some (.lst ((ps.map V.ref).take dk ++ [y])) := upd_same
        generalize upd (upd H12 l13 (.lst [y])) l14 (.lst ((ps.map V.ref).take dk ++ [y])) = H14 at e1214 h14
        have s614 := s612.trans (StP.of e1214)
        have hs14 := s614 _ _ h6 spp (fun _ z => nomatch z)
        refine el_raw (el_lo (K := K) (k := dk + 1) (ev_var rfl) (ev_op (ev_var rfl) ev_c rv_I0) hs14) fun l15 H15 hl15 e15 h15 => ⟨l14, l15, _, _, rfl, rfl, e15 _ _ h14, h15, sz_of (by rw [List.length_append, List.length_take, List.length_drop, List.length_map]; show _ + 1 + _ ≤ 100000; omega), fun l16 hl16 => ?_⟩
        have e1216 : Ex H12 (upd H15 l16 (.lst ((ps.map V.ref).take dk ++ [y] ++ (ps.map V.ref).drop (dk + 1)))) := (e1214.trans e15).trans (Ex.new hl16)
        have s616 := s612.trans (StP.of e1216)
        have pen16 := pen12.keep e1216
        have ft16 := ft6.st pen6.pen s616
        refine kM _ _ ⟨l16, _, (cs.map some).take dk ++ [none] ++ (cs.map some).drop (dk + 1), _, rfl, (pen12.keep (e1214.trans e15)).pen.ne_new hl16, upd_same, ((ft16.take dk).app ⟨rfl, fun i x c hx hc => ?_⟩).app (ft16.drop (dk + 1)), by rw [List.length_append, List.length_append, List.length_take, List.length_drop, List.length_map]; show _ + 1 + _ ≤ 10; omega, .inr (by simp), pen16.more (by omega), ?_, told6.st pen6.pen tlp s616, s06.trans s616⟩
        · cases i with
          | zero =>
            cases hx
            cases hc
            exact ay.st (StP.of e1216)
          | succ i => cases hx
        · exact tabs_keep (tabs_pen (tabs_keep (tabs_pen (tabs_pen tab7 pen7.pen x8.ex) pen8.pen x9.ex) (e10.trans e11)) (pen9.keep (e10.trans e11)).pen x12.ex) e1216
      · have s68 : StP p H6 H8 := (StP.of e7).trans (StP.ofB x8.ex)
        exact kM _ _ ⟨sp, _, _, _, rfl, spp, s68 _ _ h6 spp (fun _ z => nomatch z), ft6.st pen6.pen s68, by rw [List.length_map]; omega, .inl rfl, pen8.more (by omega), tabs_pen tab7 pen7.pen x8.ex, told6.st pen6.pen tlp s68, s06.trans s68⟩
    · exact iteC (fun z => nomatch z) fun _ => kM _ _ ⟨sp, _, _, _, rfl, spp, e7 _ _ h6, ft6.st pen6.pen (StP.of e7), by rw [List.length_map]; omega, .inl rfl, (pen6.keep e7).more (by omega), tabs_keep tab6 e7, told6.mono e7, s06.trans (StP.of e7)⟩
    subst eσ
    have lxe := ft.1
    refine q_asgIf (fun v H8 => Ex H7 H8 ∧ DueV H8 v (if es = [] then some (some 0) else none)) (fun Q' q' => if_rawB (b := decide (xs = [])) (et_test (KV.ev_eqNilL (K := K) (neg := false) (ev_var rfl) hsl (el_lst (vs := []) ea_nil (by decide)))) (fun hb H8 e8 => (eu_tup (vs := [.str "clause", .int 0]) (ea_cons ev_c (ea_cons ev_c ea_nil)) (by show 2 ≤ 100000; decide)) H8 (Ex.refl _) _ fun t H9 _ e9 h9 => q' _ H9 ⟨e8.trans e9, ?_⟩) fun hb H8 e8 => q' .non H8 ⟨e8, ?_⟩) fun v8 H8 ⟨e8, d8⟩ => ?_
    · rw [if_pos (List.eq_nil_of_length_eq_zero (by rw [← lxe, of_decide_eq_true hb]; rfl))]
      exact ⟨t, rfl, h9⟩
    · rw [if_neg (fun z => of_decide_eq_false hb (List.eq_nil_of_length_eq_zero (by rw [lxe, z]; rfl)))]
      rfl
    have ft8 := ft.st pen7.pen (StP.of e8)
    have hf := head_filter es none fun c => c == none
    have ge : ∀ i : Nat, i < es.length → es[i]? = some (es.getD i none) := fun i hi => by rw [List.getD_eq_getElem?_getD, List.getElem?_eq_getElem hi]; rfl
    have gx : ∀ i : Nat, i < xs.length → ∃ x, xs[i]? = some x := fun i hi => ⟨_, List.getElem?_eq_getElem hi⟩
    refine q_asgL (xs := ((List.range es.length).filter fun i => es.getD i none == none).map fun i => V.int (i : Nat)) (el_is (el_lcR1 (n := (es.length : Nat)) (fun i => es.getD i none == none) (fun i => V.int (i : Nat)) (ea_cons (ev_is (ev_lenS (K := K) (ev_var rfl) (sq_of (e8 _ _ hsl))) (by rw [lxe])) ea_nil) (by omega) (fun _ => rfl) (fun i H9 e9 hi => ?_) fun i H9 e9 hi _ => ev_var rfl) (by unfold given; rfl)) fun g H9 hg e9 h9 => ?_
    · have hie : i < es.length := by omega
      obtain ⟨x, hx⟩ := gx i (by omega)
      have fx := ft8.2 i x _ hx (ge i hie)
      have hx9 := (e8.trans e9) _ _ hsl
      cases hc : es.getD i none with
      | some c =>
        rw [hc] at fx
        obtain ⟨q, rfl, cl⟩ := fx
        exact et_is (et_not (a := true) (et_B (ev_isi (ea_cons (ev_op (ev_var rfl) (ev_var rfl) (rv_ixL (K := K) (sq_of hx9) (atI_nat hx))) (ea_cons ev_c ea_nil)) (.own _) (fun H' e' => tyx_clause T (cl.mono (e9.trans e'))) T.is_Clause))) rfl
      | none =>
        rw [hc] at fx
        obtain ⟨t, ht, ty⟩ := AnyE.kind (AnyP.any fx) K
        exact et_is (et_not (a := false) (et_B (ev_isi (ea_cons (ev_op (ev_var rfl) (ev_var rfl) (rv_ixL (K := K) (sq_of hx9) (atI_nat hx))) (ea_cons ev_c ea_nil)) (.own _) (fun H' e' => ty H' (e9.trans e')) (nt_clause T ht)))) rfl
    generalize hws : ((List.range es.length).filter fun i => es.getD i none == none) = ws at h9
    rw [hws] at hf
    have d9 := d8.kt (KeepT.of e9)
    refine q_asgIf (fun v H10 => Ex H9 H10 ∧ DueV H10 v (match es.findIdx? (· == none) with | some i => some (some i) | none => if es = [] then some (some 0) else none)) (fun Q' q' => if_rawB (b := !decide (ws.map (fun i : Nat => V.int (i : Nat)) = [])) (et_test (KV.ev_eqNilL (K := K) (neg := true) (ev_var rfl) h9 (el_lst (vs := []) ea_nil (by decide)))) (fun hb H10 e10 => ?_) fun hb H10 e10 => ?_) fun v11 H11 ⟨e11, d11⟩ => ?_
    · cases ws with
      | nil => cases hb
      | cons i ws => exact (eu_tup (vs := [.str "clause", .int (i : Nat)]) (ea_cons ev_c (ea_cons (ev_ixl (K := K) (i := 0) (ev_var rfl) (e10 _ _ h9) rfl) ea_nil)) (by show 2 ≤ 100000; decide)) H10 (Ex.refl _) _ fun t H12 _ e12 h12 => q' _ H12 ⟨e10.trans e12, by rw [← hf]; exact ⟨t, rfl, h12⟩⟩
    · cases ws with
      | nil => exact ev_raw (ev_var rfl) fun H12 e12 => q' _ H12 ⟨e10.trans e12, by rw [← hf]; exact d9.kt (KeepT.of (e10.trans e12))⟩
      | cons i ws => cases hb
    refine q_asgIf (fun v H12 => Ex H11 H12 ∧ DueV H12 v (dueC es)) (fun Q' q' => if_rawB (b := decide (8 < es.length)) (et_is (et_test (ev_op (ev_lenS (K := K) (ev_var rfl) (sq_of (((e8.trans e9).trans e11) _ _ hsl))) ev_c rv_I0)) (by rw [lxe]; exact decide_eq_decide.mpr (by omega))) (fun hb H12 e12 => (eu_tup (vs := [.str "many", .int 8]) (ea_cons ev_c (ea_cons ev_c ea_nil)) (by show 2 ≤ 100000; decide)) H12 (Ex.refl _) _ fun t H13 _ e13 h13 => q' _ H13 ⟨e12.trans e13, ?_⟩) fun hb H12 e12 => ev_raw (ev_var rfl) fun H13 e13 => q' _ H13 ⟨e12.trans e13, ?_⟩) fun v12 H12 ⟨e12, d12⟩ => ?_
    · unfold dueC
      rw [if_pos (of_decide_eq_true hb)]
      exact ⟨t, rfl, h13⟩
    · have d13 := d11.kt (KeepT.of (e12.trans e13))
      unfold dueC
      rw [if_neg (of_decide_eq_false hb)]
      by_cases h0 : es = []
      · subst h0
        exact d13
      · rw [if_neg h0] at d13 ⊢
        cases hfi : es.findIdx? (· == none) with
        | none => rw [hfi] at d13; exact d13
        | some i => rw [hfi] at d13; exact d13
    have e712 := ((e8.trans e9).trans e11).trans e12
    have pen12 := pen7.keep e712
    have ft12 := ft.st pen7.pen (StP.of e712)
    refine q_asgD (heard_call (cs := es) (tabs_keep tab7 e712) (e712 _ _ hsl) lx (fun H' eN => (ft12.st pen12.pen (StP.ofN eN)).fits) (fun _ => ev_var rfl) fun v13 H13 eN13 tab13 hc13 => ?_)
    have s713 : StP p H7 H13 := (StP.of e712).trans (StP.ofN eN13)
    have pen13 := pen12.keepN eN13
    have d13 := d12.kt (KeepT.ofN eN13)
    have told13 := told7.st pen7.pen tlp s713
    refine ret_raw (if_rawB (b := !decide (v12 = .non)) (et_test (ev_op (ev_var rfl) ev_c rv_notN)) (fun hb H14 e14 => ?_) fun hb H14 e14 => ?_)
    · cases hd : dueC es with
      | none => rw [hd] at d13; rw [show v12 = .non from d13] at hb; cases hb
      | some r =>
        rw [hd] at d13
        unfold HC at hc13
        rw [hd] at hc13
        obtain ⟨t1, rfl, g1⟩ := d13
        obtain ⟨t2, rfl, g2⟩ := hc13
        exact (ev_op (ev_var rfl) (ev_var rfl) (rv_word (K := K) (e14 _ _ g2) (e14 _ _ g1) (word_ok r)).1 : Ev _ _ H14 (.bl true)) H14 (Ex.refl _) _ fun H15 e15 => k H15 (pen13.keep (e14.trans e15)) (tabs_keep tab13 (e14.trans e15)) ((s07.trans s713).trans (StP.of (e14.trans e15)))
    · cases hd : dueC es with
      | some r =>
        rw [hd] at d13
        obtain ⟨t1, rfl, g1⟩ := d13
        cases hb
      | none =>
        unfold HC at hc13
        rw [hd] at hc13
        obtain ⟨hl, q, ps2, ds, ees, rfl, h1l, ch⟩ := hc13
        have eds : ds = cs := by
          rcases hes with h | h
          · exact (List.map_inj_right (fun _ _ z => by injection z)).mp (ees.symm.trans h)
          · rw [ees] at h
            obtain ⟨c, _, z⟩ := List.mem_map.mp h
            cases z
        subst eds
        have ch14 := ch.kt (KeepT.of e14)
        have ld : ds.length ≤ 10 := by
          have := lxe
          rw [ees, List.length_map] at this
          omega
        refine eqcall_raw (ev_raw (ev_ixl (K := K) (i := 0) (ev_var rfl) (e14 _ _ h1l) rfl) fun H15 e15 => ⟨q, ps2, ds, rfl, ch14.kt (KeepT.of e15), by omega, fun l H16 hl16 e16 t16 => ev_raw (ev_var rfl) fun H17 e17 => ?_⟩)
        have x1317 := ((e14.trans e15).trans e16).trans e17
        refine (rv_told (K := K) (t16.mono e17) (told13.mono x1317) okc okc) H17 (Ex.refl _) _ fun H18 e18 => ?_
        rw [decide_eq_true rfl]
        exact k H18 (pen13.keep (x1317.trans e18)) (tabs_keep tab13 (x1317.trans e18)) ((s07.trans s713).trans (StP.of (x1317.trans e18)))
end
end KL
set_option Elab.async false
set_option linter.all false
set_option maxRecDepth 100000
set_option maxHeartbeats 4000000
namespace KL
open PySem PySem.Spec PyProof.Rows L2 Evl KF
local macro_rules | `(tactic| walk_at "ev") => `(tactic| repeat' (first | exact ev_c | exact ev_var rfl | exact rv_I0 | refine' rv_I ?_ | refine' rv_eq ?_ | refine' rv_ne ?_ | refine' ev_op ?_ ?_ ?_ | exact ea_nil | refine' ea_cons ?_ ?_ | refine' et_test ?_ | refine' et_B ?_ | refine' et_not ?_ | refine' ev_notV ?_))

open PySem LamX KErr
/-! ### told lists as values -/
def EvTo (te : TE) (σ : L2.St) (H : Hp) (cs : List Cl) : Prop := ∀ H1, Ex H H1 → ∀ Q : VK, (∀ l H2, Ex H1 H2 → ToldL H2 l cs → Q (.ref l) H2) → te σ H1 Q
theorem dueC_some {ds : List Cl} (h0 : 0 < ds.length) (h8 : ds.length ≤ 8) : dueC (ds.map some) = none := by
  have nf : (ds.map some).findIdx? (· == none) = none := by
    rw [List.findIdx?_eq_none_iff]
    intro c hc
    obtain ⟨d, _, rfl⟩ := List.mem_map.mp hc
    rfl
  unfold dueC
  rw [List.length_map, if_neg (by omega), if_neg (fun z => by rw [List.map_eq_nil_iff] at z; rw [z] at h0; exact absurd h0 (by decide)), nf]
  rfl
theorem dueC_many {ds : List Cl} (h8 : 8 < ds.length) : dueC (ds.map some) = some none := by
  unfold dueC
  rw [List.length_map, if_pos h8]
theorem ToldL.app {H : Hp} {xs ys : List V} {l : Addr} {cs ds : List Cl} (hl : H l = some (.lst (xs ++ ys))) (h1 : xs.length = cs.length) (h2 : ∀ (i : Nat) (y : V) (c : Cl), xs[i]? = some y → cs[i]? = some c → Told3 H y c) (g1 : ys.length = ds.length) (g2 : ∀ (i : Nat) (y : V) (c : Cl), ys[i]? = some y → ds[i]? = some c → Told3 H y c) : ToldL H l (cs ++ ds) := by
  refine ⟨_, hl, by rw [List.length_append, List.length_append, h1, g1], fun i x c hx hc => ?_⟩
  by_cases hi : i < xs.length
  · rw [List.getElem?_append_left hi] at hx
    rw [List.getElem?_append_left (by rw [← h1]; exact hi)] at hc
    exact h2 i x c hx hc
  · have hi : xs.length ≤ i := Nat.le_of_not_lt hi
    rw [List.getElem?_append_right hi] at hx
    rw [h1] at hx hi
    rw [List.getElem?_append_right hi] at hc
    exact g2 _ x c hx hc
section
variable {K : PySem.W.Frag} {a : Ads} {T : List (Addr × Str)} {σ : L2.St} {H : Hp} {te t1 t2 : TE} {cs ds : List Cl} {l p : Addr} {ps : List Addr} {E : XK} {Q : VK}
theorem to_var (h : Ev te σ H (.ref l)) (t : ToldL H l cs) : EvTo te σ H cs := fun H1 e Q q => h H1 e _ fun H2 e2 => q l H2 e2 (t.mono (e.trans e2))
theorem to_shown (h : Ev te σ H (.ref p)) (c : ChX a H p ps cs) (hl : cs.length ≤ 16) : EvTo (tCall (spShown a) [] E (tCons te tNil)) σ H cs := fun H1 e Q q =>
  h H1 e _ fun H2 e2 => ⟨p, ps, cs, rfl, c.kt (KeepT.of (e.trans e2)), hl, fun l H3 hl3 e3 t3 => q l H3 (e2.trans e3) t3⟩
theorem to_cat (h1 : EvTo t1 σ H cs) (h2 : ∀ H1, Ex H H1 → EvTo t2 σ H1 ds) (hz : cs.length + ds.length ≤ 1000) : EvTo (tOp rCat t1 t2) σ H (cs ++ ds) := fun H1 e Q q =>
  h1 H1 e _ fun l H2 e2 a1 => h2 H2 (e.trans e2) H2 (Ex.refl _) _ fun m H3 e3 b1 => by
    obtain ⟨xs, x1, x2, x3⟩ := a1.mono e3
    obtain ⟨ys, y1, y2, y3⟩ := b1
    refine ⟨l, m, xs, ys, rfl, rfl, x1, y1, sz_of (by omega), fun c hc => q c _ ((e2.trans e3).trans (Ex.new hc)) ?_⟩
    exact ToldL.app upd_same x2 (fun i y c a b => (x3 i y c a b).kt (KeepT.of (Ex.new hc))) y2 (fun i y c a b => (y3 i y c a b).kt (KeepT.of (Ex.new hc)))
theorem ev_eqTo (h1 : EvTo t1 σ H cs) (h2 : ∀ H1, Ex H H1 → EvTo t2 σ H1 ds) (o1 : ∀ c ∈ cs, clOk c) (o2 : ∀ c ∈ ds, clOk c) : Ev (tOp (rEqD K) t1 t2) σ H (.bl (decide (cs = ds))) := fun H1 e Q q =>
  h1 H1 e _ fun l H2 e2 a1 => h2 H2 (e.trans e2) H2 (Ex.refl _) _ fun m H3 e3 b1 => rv_told (K := K) (a1.mono e3) b1 o1 o2 H3 (Ex.refl _) _ fun H4 e4 => q H4 ((e2.trans e3).trans e4)
theorem ev_neTo (h1 : EvTo t1 σ H cs) (h2 : ∀ H1, Ex H H1 → EvTo t2 σ H1 ds) (o1 : ∀ c ∈ cs, clOk c) (o2 : ∀ c ∈ ds, clOk c) : Ev (tOp (rNeD K) t1 t2) σ H (.bl (!decide (cs = ds))) := fun H1 e Q q =>
  h1 H1 e _ fun l H2 e2 a1 => h2 H2 (e.trans e2) H2 (Ex.refl _) _ fun m H3 e3 b1 => rv_toldN (K := K) (a1.mono e3) b1 o1 o2 H3 (Ex.refl _) _ fun H4 e4 => q H4 ((e2.trans e3).trans e4)
theorem ev_lenTo (h : EvTo te σ H cs) : Ev (tCB (rLenS K) (tCons te tNil)) σ H (.int (cs.length : Nat)) := fun H1 e Q q =>
  h H1 e _ fun l H2 e2 ⟨ys, y1, y2, _⟩ => ⟨l, ys, rfl, .inl (sq_of y1), by rw [y2]; exact q H2 e2⟩
theorem to_one {c : Cl} : EvTo (tLst (tCons (tTup (tCons (tC (.str c.1)) (tCons (tC (.str c.2.1)) (tCons (tC (.str c.2.2)) tNil)))) tNil)) σ H [c] := fun H1 e Q q =>
  lst1_raw <| (eu_tup (vs := [.str c.1, .str c.2.1, .str c.2.2]) (ea_cons ev_c (ea_cons ev_c (ea_cons ev_c ea_nil))) (by show 3 ≤ 100000; decide)) H1 e _ fun t H2 _ e2 h2 => ⟨by show 1 ≤ sizeLine; decide, fun l hl => q l _ (e2.trans (Ex.new hl)) ⟨[.ref t], upd_same, rfl, fun i y d hy hd => by
    cases i with
    | zero =>
      cases hy
      cases hd
      exact ⟨t, rfl, Ex.new hl _ _ h2⟩
    | succ i => cases hy⟩⟩
theorem to_filter {iv jv : Nat} {c : V} (hm : σ[iv]? = some (some (.ref l))) (t : ToldL H l ds) (hz : ds.length ≤ 1000) (hw : ∀ x, wipe ((wipe σ [10]).set 10 (some x)) [10] = wipe σ [10]) (hc : ∀ x, ((wipe σ [10]).set 10 (some x))[jv]? = some (some c)) (hx : ∀ x, ((wipe σ [10]).set 10 (some x))[10]? = some (some x)) :
    EvTo (tLc (iList K (tVar iv)) (gName 10) (tTest (tOp (fun x y H Q => y = .non ∧ Q (.bl (decide (x = .non))) H) (tVar jv) (tC .non))) (tVar 10) [10]) σ H (if c = .non then ds else []) := fun H1 e Q q => by
  obtain ⟨ys, y1, y2, y3⟩ := t.mono e
  have hL := el_lcL (K := K) (xs := ys) (σ := σ) (H := H1) (tl := tVar iv) (j := 10) (vs := [10]) (t := tTest (tOp (fun x y H Q => y = .non ∧ Q (.bl (decide (x = .non))) H) (tVar jv) (tC .non))) (te := tVar 10) (fun _ => decide (c = .non)) (fun i => ys.getD i .non) (ev_var hm) (sq_of y1) (by omega) hw (fun i x H2 e2 hi => et_test (ev_op (ev_var (hc x)) ev_c rv_isN)) (fun i x H2 e2 hi _ => ev_is (ev_var (hx x)) (by rw [List.getD_eq_getElem?_getD, hi]; rfl))
  refine hL H1 (Ex.refl _) Q fun g H2 hg e2 h2 => q g H2 e2 ?_
  by_cases h : c = .non
  · rw [if_pos h]
    refine ⟨_, h2, ?_, fun i y d hy hd => ?_⟩
    · rw [show (fun _ : Nat => decide (c = .non)) = fun _ => true by funext _; rw [decide_eq_true h], given_all, List.length_map, List.length_range, y2]
    · rw [show (fun _ : Nat => decide (c = .non)) = fun _ => true by funext _; rw [decide_eq_true h], given_all] at hy
      rw [List.getElem?_map] at hy
      obtain ⟨j, hj, rfl⟩ := Option.map_eq_some_iff.mp hy
      have hi := (List.getElem?_eq_some_iff.mp hj).1
      rw [List.length_range] at hi
      rw [List.getElem?_range hi] at hj
      obtain rfl := Option.some.inj hj
      have gi : ys[i]? = some (ys.getD i .non) := by rw [List.getD_eq_getElem?_getD, List.getElem?_eq_getElem hi]; rfl
      exact (y3 i _ d gi hd).kt (KeepT.of e2)
  · rw [if_neg h]
    refine ⟨_, h2, ?_, fun i y d hy hd => nomatch hd⟩
    unfold given
    rw [show (fun _ : Nat => decide (c = .non)) = fun _ => false by funext _; rw [decide_eq_false h]]
    simp
theorem ne_longer {o2 : Addr} {qs more : List Addr} (h1 : Ev t1 σ H (.ref p)) (h2 : Ev t2 σ H (.ref o2)) (c1 : ChX a H p (qs ++ more) cs) (c2 : ChX a H o2 qs ds) (ne : more ≠ []) (ty : TyX K H (.ref o2) (.ref a.f_Change) ∧ ∀ H', Ex H H' → TyX K H' (.ref o2) (.ref a.f_Change)) : Ev (tOp (KD.rOwnB K a.f_Change (spChEq K a) E) t1 t2) σ H (.bl false) := fun H1 e Q q =>
  h1 H1 e _ fun H2 e2 => h2 H2 (e.trans e2) _ fun H3 e3 => by
    have x3 := (e.trans e2).trans e3
    have d1 := c1.kt (KeepT.of x3)
    have d2 := c2.kt (KeepT.of x3)
    obtain ⟨dx, ct, tt, hb, _⟩ := id d1
    exact ⟨p, dx, _, _, rfl, hb, ty.2 H3 x3, KV.notFirst_self, p, qs ++ more, cs, .ref o2, false, rfl, d1, .more o2 qs more ds d2 rfl ne, fun H4 e4 => q H4 ((e2.trans e3).trans e4)⟩
theorem q_seqM {t : TS} {D : Ends} {tz : TS} {M : L2.St → Hp → Prop} (h : (∀ σ2 H2, M σ2 H2 → tz D σ2 H2) → t { D with nx := tz D } σ H) (k : ∀ σ2 H2, M σ2 H2 → tz D σ2 H2) : tSeq t tz D σ H := h k
theorem heard_mul {o : Addr} {qs : List Addr} (tabs : Tabs T H) (h1 : ∀ H, Ev t1 σ H (.ref p)) (h2 : ∀ H, Ev t2 σ H (.ref o)) (c1 : ∀ H1, ExtN H H1 → ChX a H1 p ps cs) (c2 : ∀ H1, ExtN H H1 → ChX a H1 o qs ds) (pc : 0 < cs.length) (lc : cs.length ≤ 8) (ld : ds.length ≤ 8) (k : ∀ v H', ExtN H H' → Tabs T H' → HC a H' v ((cs ++ ds).map some) → Q v H') :
    tLam T (THeard a) (fun E => tOp (KN.rOwn2 a.f_Change (fun vs H Q E => spMulA a (vs ++ []) H Q E) E) t1 t2) σ H Q :=
  heard_any tabs (fun E H1 Q' eN g1 g2 g3 => h1 H1 H1 (Ex.refl _) _ fun H2 e2 => h2 H2 H2 (Ex.refl _) _ fun H3 e3 => by
    have e13 := e2.trans e3
    have m1 := (c1 H1 eN).kt (KeepT.of e13)
    have m2 := (c2 H1 eN).kt (KeepT.of e13)
    obtain ⟨dx, ct, tt, hp, _⟩ := id m1
    obtain ⟨dy, cu, tu, hq, _⟩ := id m2
    have len : (cs ++ ds).length = cs.length + ds.length := List.length_append
    exact ⟨p, o, dx, dy, _, _, rfl, rfl, hp, hq, p, o, ps, qs, cs, ds, rfl, m1, m2, pc, lc, ld, fun h8 x H4 hx e4 ch => g1 (cs ++ ds) (ps ++ qs) x H4 rfl (dueC_some (by omega) (by omega)) (fresh_back e13 hx) (e13.trans e4) ch, fun h8 => (g3 (dueC_many (by omega))).back e13⟩) k
end
end KL
set_option Elab.async false
set_option linter.all false
set_option maxRecDepth 100000
set_option maxHeartbeats 4000000
namespace KL
open PySem PySem.Spec PyProof.Rows L2 Evl KF
local macro_rules | `(tactic| walk_at "ev") => `(tactic| repeat' (first | exact ev_c | exact ev_var rfl | exact rv_I0 | refine' rv_I ?_ | refine' rv_eq ?_ | refine' rv_ne ?_ | refine' ev_op ?_ ?_ ?_ | exact ea_nil | refine' ea_cons ?_ ?_ | refine' et_test ?_ | refine' et_B ?_ | refine' et_not ?_ | refine' ev_notV ?_))

open PySem LamX KErr
def spJR (a : Ads) : Sp := fun vs H Q _ => ∃ (p lc : Addr) (n : Nat) (tl cp : Addr) (ps : List Addr) (cs : List Cl), vs = [.ref p, .ref tl, .ref cp] ∧ PenL H p lc n ∧ n + 20 ≤ 100000 ∧ Tabs (tabsT a) H ∧ ToldL H tl cs ∧ tl ≠ p ∧ (∀ c ∈ cs, clOk c) ∧ 0 < cs.length ∧ cs.length ≤ 8 ∧ ChX a H cp ps cs ∧ ∀ H', PenL H' p lc (n + 20) → Tabs (tabsT a) H' → StP p H H' → Q (.bl true) H'
section
variable {P : Program} {w : World} {K : PySem.W.Frag} {mg : Str → Option Value} {base : Heap} {a : Ads}
theorem ok_joined_right (T : Txt w K mg a) (TBJ : TabB base mg a.cJ a.PJ) : FnOk P w K mg base CX0 12 a.f__law_joined_right a.d__law_joined_right ["_law_pen_here", "_law_told", "_law_change"] (spJR a) := by
  obtain ⟨ocR, odR, kVR, docR, pmR, anR, ctR, oslR, eR, lkR⟩ := T.crJ
  rw [eR] at lkR
  rw [eR]
  have G__law_draw : FnOk P w K mg base CX0 11 _ _ _ _ := (ok_draw T).mono (by decide)
  have G__law_clause : FnOk P w K mg base CX0 11 _ _ _ _ := (ok_cl T).mono (by decide)
  have G__law_made : FnOk P w K mg base CX0 11 _ _ _ _ := (ok_made T).mono (by decide)
  have G__law_shown : FnOk P w K mg base CX0 11 _ _ _ _ := (ok_shown T).mono (by decide)
  have G__law_call : FnOk P w K mg base (L2.CX P w) 11 _ _ _ _ := (ok_call T).mono (by decide)
  have G_mul : FnOk P w K mg base (L2.CX P w) 11 _ _ _ _ := (ok_mul T).mono (by decide)
  have L_mul : FnOk P w K mg base (L2.CX P w) 8 _ _ _ _ := ok_mul T
  have G_Change_read : FnOk P w K mg base (L2.CX P w) 11 _ _ _ _ := (ok_Change_read T).mono (by decide)
  have G_eqC : FnOk P w K mg base CX0 11 _ _ _ _ := (ok_Change_eq T).mono (by decide)
  refine fn_of lkR T.crJ_code sc__law_joined_right (fun vs H Q E h => ?_) fun A outer s H vs Q E hr h => ?_
  · obtain ⟨_, _, _, _, _, _, _, rfl, _⟩ := h
    rfl
  · obtain ⟨p, lc, n, tl, cp, ps, cs, rfl, pen, hn, tab, told, tlp, okc, pc, l8, ch, k⟩ := h
    have hrc : Room 11 _ := hr
    have hr10 : Room 10 _ := hrc.mono (by decide)
    obtain ⟨ocH, odH, kVH, docH, pmH, anH, cdvH, ctH, oslH, eH, lkH, hcdH⟩ := id T.fn__law_heard.ex
    have hbH := bd__law_heard T
    rw [eH] at lkH hbH
    refine ⟨_, (show PSs (cxOf CX0 P w K mg base n__law_joined_right "_law_joined_right" (defScope s__law_joined_right) a.f__law_joined_right (.ref a.cJ) A outer s H E).nox (defBody s__law_joined_right) _ from (pss_cons (ps_setLc (i := 3) (own := [("_law_k", 9)]) (g := gName 9) rfl sc__law_joined_right.nd rfl rfl (sw_true rfl rfl rfl (by decide +kernel)) (pi_range1 rfl T.b_range (pa_cons (pe_op op_add pe_int (pe_call G__law_draw hrc rfl T.mg__law_draw T.fn__law_draw.kp (bd__law_draw T) .nil pass0 (pa_cons (pv 0) (pa_cons pe_int pa_nil)))) pa_nil)) (blkOk_by (own := [("_law_k", 9)]) (N := n__law_joined_right) (sc := defScope s__law_joined_right) (by decide +kernel)) (fun _ _ _ _ _ => (pg_name (i := 9) sc__law_joined_right.nd rfl (Or.inl rfl))) (fun _ _ _ _ _ => pts_nil) (fun _ _ _ _ _ => (pe_call G__law_clause hrc rfl T.mg__law_clause T.fn__law_clause.kp (bd__law_clause T) .nil pass0 (pa_cons (pv 0) pa_nil))))
    (pss_cons (ps_set (i := 8) sc__law_joined_right.nd rfl (Or.inr rfl) (pe_call G__law_call hrc rfl T.mg__law_call T.fn__law_call.kp (bd__law_call T) .nil passL (pa_cons (pe_call G__law_made hrc rfl T.mg__law_made T.fn__law_made.kp (bd__law_made T) .nil pass0 (pa_cons (pv 3) pa_nil)) pa_nil)))
    (pss_cons (ps_set (i := 4) sc__law_joined_right.nd rfl (Or.inl rfl) (LamX.pe_lamcall (T := tabsT a) (TT := THeard a) rfl T.mg__law_heard T.fn__law_heard.kp lkH hcdH hbH sc__law_heard rfl (Or.inl rfl) (heard_gives T) TBJ rfl (List.mem_cons_of_mem _ (List.mem_cons_of_mem _ (List.mem_cons_self ..))) (tabs_uJ T) (k := 8) hr10 (LamX.lamS_by (show LamX.lamSB (defScope s__law_joined_right) _ = true by decide +kernel)) rfl (fun _ _ _ _ _ => rfl) (fun _ _ _ _ _ _ _ hr2 => (pe_op (KN.op_own2 T.om_Change (L_mul.raw (bd_ChangeD_mulD T) .nil) hr2 (passes_call (takes_of rfl rfl rfl rfl) fun _ _ _ _ h => h)) (pv 2) (pv 8)))))
    (pss_cons (ps_if (PW.pt (pw_and (pt_cmpR op_gt (pe_callB call_len_seq (by rfl) T.b_len PySem.boot_len (pa_cons (pe_op op_cat (pv 1) (pv 3)) pa_nil)) pe_int (nomark _)) (pw_and1 (pt_cmpR (op_neD hr.units) (pv 4) (pe_tup (pa_cons pe_str (pa_cons pe_int pa_nil))) (nomark _))))) (pss_one (ps_ret pe_bl)) pss_nil)
    (pss_cons (ps_if (PW.pt (pw_and (pt_cmpR op_le (pe_callB call_len_seq (by rfl) T.b_len PySem.boot_len (pa_cons (pe_op op_cat (pv 1) (pv 3)) pa_nil)) pe_int (nomark _)) (pw_and1 (pt_cmpR (op_neD hr.units) (pe_call G__law_shown hrc rfl T.mg__law_shown T.fn__law_shown.kp (bd__law_shown T) .nil pass0 (pa_cons (pe_ix ix_list (pv 4) pe_int (fun _ _ => rfl)) pa_nil)) (pe_op op_cat (pv 1) (pv 3)) (nomark _))))) (pss_one (ps_ret pe_bl)) pss_nil)
    (pss_cons (ps_asg (pe_tup (pa_cons (pv 2) (pa_cons pe_non pa_nil))) (pg_tup rfl (pgs_cons (pg_name (i := 5) sc__law_joined_right.nd rfl (Or.inl rfl)) (pgs_cons (pg_name (i := 6) sc__law_joined_right.nd rfl (Or.inr rfl)) pgs_nil))))
    (pss_cons (ps_try_keep (X := (cxOf CX0 P w K mg base n__law_joined_right "_law_joined_right" (defScope s__law_joined_right) a.f__law_joined_right (.ref a.cJ) A outer s H E).nox) (c := .ref a.x_TooMany) (i := 7) (tb := fun W => KN.tAugAt 5 a.f_Change (fun vs H Q E => spMulA a (vs ++ []) H Q E) (WE W) (tVar 8)) (ts := fun _ _ _ => tAsg (tVar 7) (gName 6)) rfl rfl rfl sc__law_joined_right.nd rfl rfl ⟨rfl, by decide, .inl T.mg_TooMany⟩ (fun W pn xe tk _ => (pss_one (KN.ps_augAt (i := 5) (E := WE W) sc__law_joined_right.nd rfl rfl (pv 8) T.om_Change (G_mul.raw (bd_ChangeD_mulD T) .nil) hrc (fun σ => L2.passAt tk σ)))) (fun a0 oe cls d0 pn hz hf => pss_one (ps_set (i := 6) sc__law_joined_right.nd rfl (Or.inr rfl) (pv 7))))
    (pss_cons (ps_if (pt_cmpR (op_neD hr.units) (pe_call G__law_shown hrc rfl T.mg__law_shown T.fn__law_shown.kp (bd__law_shown T) .nil pass0 (pa_cons (pv 5) pa_nil)) (pe_op op_cat (pv 1) (pe_lc (own := [("_law_one", 10)]) (g := gName 10) rfl sc__law_joined_right.nd (pi_list (pv 3)) (blkOk_by (own := [("_law_one", 10)]) (N := n__law_joined_right) (sc := defScope s__law_joined_right) (by decide +kernel)) (fun _ _ _ _ _ => (pg_name (i := 10) sc__law_joined_right.nd rfl (Or.inl rfl))) (fun _ _ _ _ _ => (pts_one (pt_cmpR op_isN (pv 6) pe_non (nomark _)))) (fun _ _ _ _ _ => (pv 10)))) (nomark _)) (pss_one (ps_ret pe_bl)) pss_nil)
    (pss_cons (ps_set (i := 5) sc__law_joined_right.nd rfl (Or.inl rfl) (pv 8))
    (pss_cons (KN.ps_augAt (i := 5) (E := fun _ => E0) sc__law_joined_right.nd rfl rfl (ClX.pe_cmeth (pe_glob (v := .ref a.f_Change) rfl T.mg_Change rfl) T.r_Change T.m_Change_read (G_Change_read.raw (bd_Change_read T) .nil) hrc passL (pa_cons pe_str pa_nil)) T.om_Change (G_mul.raw (bd_ChangeD_mulD T) .nil) hrc (fun σ => KN.at_of passL σ))
    (pss_one (ps_ret (pe_and (pe_cmpR (op_eqD hr.units) (pe_call G__law_shown hrc rfl T.mg__law_shown T.fn__law_shown.kp (bd__law_shown T) .nil pass0 (pa_cons (pv 5) pa_nil)) (pe_op op_cat (pv 3) (pe_lst (pa_cons (pe_tup (pa_cons pe_str (pa_cons pe_str (pa_cons pe_str pa_nil)))) pa_nil))) (nomark _)) (pe_and (pe_cmpR (op_eqD hr.units) (pe_call G__law_shown hrc rfl T.mg__law_shown T.fn__law_shown.kp (bd__law_shown T) .nil pass0 (pa_cons (pv 8) pa_nil)) (pv 3) (nomark _)) (pe_one (pe_not (pe_cmpR (KD.op_ownB (op := .Eq) (by intro _ _; rfl) T.m_ChangeD_eqD.at_ T.m_ChangeD_eqD.fn (G_eqC.raw (bd_ChangeD_eqD T) .nil) hrc pass0) (pv 5) (pv 8) (nomark _))))))))))))))))))).nox, ?_⟩
    refine q_asgD2 (lc_rng1 (add_raw (draw_r (p := p) (lc := lc) 4 rfl ev_c pen (by omega) (by decide) (by decide) fun d H1 hd x1 pen1 => ⟨1, (d : Nat), rfl, rfl, ⟨((1 + d : Nat) : Int), by rw [Int.natCast_add]; rfl, by omega, by omega, ?_⟩⟩)))
    refine lc_cls (n := 1 + d) (p := p) (lc := lc) (k := n + 1) (fun _ => rfl) (fun _ => rfl) pen1 (by omega) (by omega) fun ml ds H2 hml lds okd x2 pen2 tm2 mlp => ?_
    have x02 : ExP p H H2 := x1.trans x2
    have pen2 := pen2.more (m := n + 20) (by omega)
    have tab2 := tabs_pen tab pen.pen x02.ex
    have told2 := told.st pen.pen tlp (StP.ofB x02.ex)
    have ch2 := ch.kt (KeepT.ofS pen.pen (StP.ofB x02.ex))
    have len : (cs ++ ds).length = cs.length + ds.length := List.length_append
    have oks : ∀ c ∈ cs ++ ds, clOk c := fun c hc => (List.mem_append.mp hc).elim (okc c) (okd c)
    refine q_asgD ⟨.ref ml, rfl, ml, ds, rfl, tm2, okd, by omega, fun sp2 qs H3 hsp e3 h3 cls3 => ⟨sp2, qs.map V.ref, ds.map some, rfl, h3, by rw [List.length_map, cls3.1]; omega, fits_cls cls3, ⟨fun ds' qs' o H4 eq exs dn ho e4 co => ?_, fun n hn => ?_, fun hn => ?_⟩⟩⟩
    rotate_left
    · rw [dueC_some (by omega) (by omega)] at hn
      cases hn
    · rw [dueC_some (by omega) (by omega)] at hn
      cases hn
    obtain rfl : ds = ds' := (List.map_inj_right (fun _ _ z => by injection z)).mp eq
    have e24 := e3.trans e4
    have pen4 := pen2.keep e24
    have tab4 := tabs_keep tab2 e24
    have told4 := told2.mono e24
    have tm4 := tm2.mono e24
    have ch4 := ch2.kt (KeepT.of e24)
    refine q_asgD (heard_mul (ps := ps) (cs := cs) (qs := qs') (ds := ds) tab4 (fun _ => ev_var rfl) (fun _ => ev_var rfl) (fun H' eN => ch4.kt (KeepT.ofN eN)) (fun H' eN => co.kt (KeepT.ofN eN)) pc l8 (by omega) fun v H5 eN5 tab5 hc5 => ?_)
    have pen5 := pen4.keepN eN5
    have told5 := told4.st pen4.pen tlp (StP.ofN eN5)
    have tm5 := tm4.st pen4.pen mlp (StP.ofN eN5)
    have ch5 := ch4.kt (KeepT.ofN eN5)
    have co5 := co.kt (KeepT.ofN eN5)
    have s05 : StP p H H5 := ((StP.ofB x02.ex).trans (StP.of e24)).trans (StP.ofN eN5)
    have res : (8 < cs.length + ds.length ∧ ∃ t, v = .ref t ∧ H5 t = some (.tup [.str "many", .int 8])) ∨ (cs.length + ds.length ≤ 8 ∧ ∃ (hl q : Addr) (ps3 : List Addr), v = .ref hl ∧ H5 hl = some (.lst [.ref q]) ∧ ChX a H5 q ps3 (cs ++ ds)) := by
      by_cases h8 : 8 < (cs ++ ds).length
      · unfold HC at hc5
        rw [dueC_many h8] at hc5
        obtain ⟨t, e, ht⟩ := hc5
        exact .inl ⟨by omega, t, e, ht⟩
      · unfold HC at hc5
        rw [dueC_some (by omega) (by omega)] at hc5
        obtain ⟨hl, q, ps3, es, ees, e, h1, c⟩ := hc5
        obtain rfl : cs ++ ds = es := (List.map_inj_right (fun _ _ z => by injection z)).mp ees
        exact .inr ⟨by omega, hl, q, ps3, e, h1, c⟩
    have lenT : ∀ (H6 : Hp) (o5 o6 o7 o8 o9 o10 : Option V), Ex H5 H6 → Ev (tCB (rLenS K) (tCons (tOp rCat (tVar 1) (tVar 3)) tNil)) [some (.ref p), some (.ref tl), some (.ref cp), some (.ref ml), some v, o5, o6, o7, o8, o9, o10] H6 (.int ((cs ++ ds).length : Nat)) := fun H6 o5 o6 o7 o8 o9 o10 e => ev_lenTo (K := K) (to_cat (to_var (ev_var rfl) (told5.mono e)) (fun _ e2 => to_var (ev_var rfl) (tm5.mono (e.trans e2))) (by omega))
    refine q_when (b := false) (et_is (et_and (a := decide (8 < cs.length + ds.length)) (b := false) (et_is (et_test (ev_op (lenT H5 _ _ _ _ _ _ (Ex.refl _)) ev_c rv_I0)) (by rw [len]; exact decide_eq_decide.mpr (by omega))) fun hb => ?_) (Bool.and_false _)) (fun z => nomatch z) fun _ H6 e6 => ?_
    · rcases res with ⟨_, t, rfl, ht⟩ | ⟨h8, _⟩
      · exact et_test (ev_opU (ev_var rfl) (eu_tup (vs := [.str "many", .int 8]) (ea_cons ev_c (ea_cons ev_c ea_nil)) (by show 2 ≤ 100000; decide)) fun q H' hq e => (rv_word (K := K) (w := "many") (n := 8) (e _ _ ht) hq (word_ok none)).2)
      · have := of_decide_eq_true hb
        omega
    refine q_when (b := false) (et_is (et_and (a := decide (cs.length + ds.length ≤ 8)) (b := false) (et_is (et_test (ev_op (lenT H6 _ _ _ _ _ _ e6) ev_c rv_I0)) (by rw [len]; exact decide_eq_decide.mpr (by omega))) fun hb => ?_) (Bool.and_false _)) (fun z => nomatch z) fun _ H7 e7 => ?_
    · rcases res with ⟨h8, _⟩ | ⟨_, hl, q, ps3, rfl, h1, c⟩
      · have := of_decide_eq_true hb
        omega
      · exact et_is (et_test (ev_neTo (K := K) (to_shown (ev_ixl (K := K) (i := 0) (ev_var rfl) (e6 _ _ h1) rfl) (c.kt (KeepT.of e6)) (by omega)) (fun _ e => to_cat (to_var (ev_var rfl) (told5.mono (e6.trans e))) (fun _ e2 => to_var (ev_var rfl) (tm5.mono ((e6.trans e).trans e2))) (by omega)) oks oks)) (by simp)
    have e57 := e6.trans e7
    refine q_unt (K := K) (eu_tup (vs := [.ref cp, .non]) (ea_cons (ev_var rfl) (ea_cons ev_c ea_nil)) (by show 2 ≤ 100000; decide)) rfl fun H8 e8 => ⟨_, _, rfl, ⟨_, _, rfl, rfl, ?_⟩⟩
    have e58 := e57.trans e8
    have ch8 := ch5.kt (KeepT.of e58)
    have co8 := co5.kt (KeepT.of e58)
    refine q_seqM (M := fun σ2 H9 => ∃ (s2 : Addr) (zs : List Addr) (fs : List Cl) (c6 : V), σ2 = [some (.ref p), some (.ref tl), some (.ref cp), some (.ref ml), some v, some (.ref s2), some c6, none, some (.ref o), none, none] ∧ ChX a H9 s2 zs fs ∧ fs = cs ++ (if c6 = .non then ds else []) ∧ fs.length ≤ 8 ∧ Ex H8 H9) (fun kM => ?_) fun σ2 H9 ⟨s2, zs, fs, c6, eσ, ch9, efs, l9, e9⟩ => ?_
    · obtain ⟨dx, ct, tt, hp8, _⟩ := id ch8
      obtain ⟨dy, cu, tu, hq8, _⟩ := id co8
      refine ⟨.ref cp, rfl, ev_raw (ev_var rfl) fun H9 e9 => ⟨cp, o, dx, dy, _, _, rfl, rfl, e9 _ _ hp8, e9 _ _ hq8, cp, o, ps, qs', cs, ds, rfl, ch8.kt (KeepT.of e9), co8.kt (KeepT.of e9), pc, l8, by omega, fun h8 x H10 hx e10 cx => ?_, fun h8 dd H10 hd e10 h10 => ?_⟩⟩
      · exact kM _ _ ⟨x, _, _, .non, rfl, cx, by rw [if_pos rfl], by omega, e9.trans e10⟩
      · refine ⟨T.em_TooMany_TooMany, fun a0 oe ha0 hz hf => ⟨.ref a0, rfl, ?_⟩⟩
        have eX : Ex H8 (upd H10 a0 (errO a0 oe)) := (e9.trans e10).trans (Ex.new ha0)
        exact kM _ _ ⟨cp, ps, cs, .ref a0, rfl, ch8.kt (KeepT.of eX), by rw [if_neg (fun z => nomatch z), List.append_nil], l8, eX⟩
    subst eσ
    have e59 := e58.trans e9
    have told9 := told5.mono e59
    have tm9 := tm5.mono e59
    have co9 := co5.kt (KeepT.of e59)
    have okf : ∀ c ∈ fs, clOk c := fun c hc => by
      rw [efs] at hc
      rcases List.mem_append.mp hc with h | h
      · exact okc c h
      · split at h
        · exact okd c h
        · cases h
    have okx : ∀ c ∈ cs ++ (if c6 = .non then ds else []), clOk c := by rw [← efs]; exact okf
    refine q_when (b := false) (et_is (et_test (ev_neTo (K := K) (to_shown (ev_var rfl) ch9 (by omega)) (fun H10 e10 => to_cat (to_var (ev_var rfl) (told9.mono e10)) (fun H11 e11 => to_filter (K := K) (c := c6) rfl (tm9.mono (e10.trans e11)) (by omega) (fun _ => rfl) (fun _ => rfl) (fun _ => rfl)) (by split; (· omega); (· show cs.length + 0 ≤ 1000; omega))) okf okx)) (by rw [efs]; simp)) (fun z => nomatch z) fun _ H10 e10 => ?_
    refine q_asg (v := .ref o) (ev_var rfl) fun H11 e11 => ?_
    have e511 := (e59.trans e10).trans e11
    have co11 := co5.kt (KeepT.of e511)
    have pc1 : partsC "a-x" = ([("ugo", "-", "x")] : List Cl).map some := by decide +kernel
    have okn : ∀ c ∈ ([("ugo", "-", "x")] : List Cl), clOk c := fun c hc => by
      rw [List.mem_singleton.mp hc]
      exact ⟨by decide +kernel, by decide +kernel, by decide +kernel⟩
    refine (show tSeq _ _ _ _ H11 from ⟨.ref o, rfl, rfl, ⟨.str "a-x", rfl, anyS (by decide +kernel), fun s' es r H12 ex pcs dn hr12 e12 cr => ?_, fun n hn => ?_, fun hn => ?_⟩⟩)
    rotate_left
    · rw [dueS_of] at hn
      rw [show csOf (.str "a-x") = ([("ugo", "-", "x")] : List Cl).map some from pc1, dueC_some (by decide) (by decide)] at hn
      cases hn
    · rw [dueS_of] at hn
      rw [show csOf (.str "a-x") = ([("ugo", "-", "x")] : List Cl).map some from pc1, dueC_some (by decide) (by decide)] at hn
      cases hn
    cases ex
    obtain ⟨rs, cr⟩ := cr
    rw [pc1] at pcs
    obtain rfl : ([("ugo", "-", "x")] : List Cl) = es := (List.map_inj_right (fun _ _ z => by injection z)).mp pcs
    have co12 := co11.kt (KeepT.of e12)
    obtain ⟨dx, ct, tt, hp12, _⟩ := id co12
    obtain ⟨dy, cu, tu, hq12, _⟩ := id cr
    refine ⟨o, r, dx, dy, _, _, rfl, rfl, hp12, hq12, o, r, qs', rs, ds, [("ugo", "-", "x")], rfl, co12, cr, by omega, by omega, by decide, fun h8 x H13 hx e13 cx => ?_, fun h8 => ?_⟩
    rotate_left
    · have : ds.length + 1 > 8 := h8
      omega
    have e513 := (e511.trans e12).trans e13
    have co13 := co5.kt (KeepT.of e513)
    have tm13 := tm5.mono e513
    have okl : ∀ c ∈ ds ++ ([("ugo", "-", "x")] : List Cl), clOk c := fun c hc => (List.mem_append.mp hc).elim (okd c) (okn c)
    have rl : rs ≠ [] := fun z => by
      obtain ⟨_, _, _, _, _, cls⟩ := cr
      have := cls.1
      rw [z] at this
      cases this
    refine s_ret (v := .bl true) (ev_is (ev_andV (a := true) (b := true) (ev_is (ev_eqTo (K := K) (to_shown (ev_var rfl) cx (by rw [List.length_append]; show _ + 1 ≤ 16; omega)) (fun _ e => to_cat (to_var (ev_var rfl) (tm13.mono e)) (fun _ e2 => to_one (c := ("ugo", "-", "x"))) (by show _ + 1 ≤ 1000; omega)) okl okl) (by rw [decide_eq_true rfl])) fun _ => ev_andV (a := true) (b := true) (ev_is (ev_eqTo (K := K) (to_shown (ev_var rfl) co13 (by omega)) (fun _ e => to_var (ev_var rfl) (tm13.mono e)) okd okd) (by rw [decide_eq_true rfl])) fun _ => ev_is (ev_notV (ne_longer (K := K) (ev_var rfl) (ev_var rfl) cx co13 rl ⟨tyx_change T co13, fun H' e' => tyx_change T (co13.kt (KeepT.of e'))⟩)) rfl) rfl) fun H14 e14 => ?_
    have x514 := e513.trans e14
    exact k H14 (pen5.keep x514) (tabs_keep tab5 x514) (s05.trans (StP.of x514))
end
end KL
set_option Elab.async false
set_option linter.all false
set_option maxRecDepth 100000
set_option maxHeartbeats 4000000
namespace KL
open PySem PySem.Spec PyProof.Rows L2 Evl KF
local macro_rules | `(tactic| walk_at "ev") => `(tactic| repeat' (first | exact ev_c | exact ev_var rfl | exact rv_I0 | refine' rv_I ?_ | refine' rv_eq ?_ | refine' rv_ne ?_ | refine' ev_op ?_ ?_ ?_ | exact ea_nil | refine' ea_cons ?_ ?_ | refine' et_test ?_ | refine' et_B ?_ | refine' et_not ?_ | refine' ev_notV ?_))

open PySem LamX KErr
theorem kb_Cread {w : World} {K : PySem.W.Frag} {mg : Str → Option Value} {a : Ads} (T : Txt w K mg a) : KBinds K a.d_Change_read ["cls", "text"] ["text"] gC1v gC1 where
  to := fun s us ws X hl => by
    obtain ⟨oc, od, kV, doc, pm, an, cdv, ct, osl, e, lk, hcd⟩ := T.fn_Change_read.ex
    rw [e]
    match us, ws, hl with
    | [_], [_], _ => exact .of_eq rfl
  rel := (kb_read T).rel
/-! ### words of the law -/
/-! values that are no texts -/
def AnyN (p : Addr) (H : Hp) (x : V) : Prop := AnyP p H x ∧ ∀ s, x ≠ .str s
def EvNs (p : Addr) (ta : TA) (σ : L2.St) (H : Hp) (n : Nat) : Prop := ∀ H1, Ex H H1 → ∀ Q : List V → Hp → Prop, (∀ xs H2, Ex H1 H2 → xs.length = n → (∀ x ∈ xs, AnyN p H2 x) → Q xs H2) → ta σ H1 Q
section
variable {K : PySem.W.Frag} {σ : L2.St} {H : Hp} {te : TE} {ta : TA} {p lc : Addr} {n k m : Nat} {x : V} {xs : List V} {Q : VK} {E : XK} {j : Nat}
theorem ens_nil : EvNs p tNil σ H 0 := fun H1 _ Q q => q [] H1 (Ex.refl H1) rfl (fun _ z => nomatch z)
theorem ens_cons (h : ∀ H1, Ex H H1 → ∀ Q : VK, (∀ x H2, Ex H1 H2 → AnyN p H2 x → Q x H2) → te σ H1 Q) (r : EvNs p ta σ H n) : EvNs p (tCons te ta) σ H (n + 1) := fun H1 e Q q =>
  h H1 e _ fun x H2 e2 bx => r H2 (e.trans e2) _ fun xs H3 e3 l all => q (x :: xs) H3 (e2.trans e3) (by rw [List.length_cons, l]) fun z hz => by
    rcases List.mem_cons.mp hz with rfl | hz
    · exact ⟨bx.1.st (StP.of e3), bx.2⟩
    · exact all z hz
theorem en_c (h : AnyP p H x) (n : ∀ s, x ≠ .str s) : ∀ H1, Ex H H1 → ∀ Q : VK, (∀ x H2, Ex H1 H2 → AnyN p H2 x → Q x H2) → tC x σ H1 Q := fun H1 e Q q => q _ H1 (Ex.refl _) ⟨h.st (StP.of e), n⟩
theorem en_l (hp : PenAt H p m) (h : EvL te σ H xs) : ∀ H1, Ex H H1 → ∀ Q : VK, (∀ x H2, Ex H1 H2 → AnyN p H2 x → Q x H2) → te σ H1 Q := fun H1 e Q q => h H1 e _ fun l H2 hl e2 h2 => q _ H2 e2 ⟨.inr (.inr ⟨l, rfl, (hp.keep e).ne_new hl, .inl ⟨_, h2⟩⟩), fun _ z => nomatch z⟩
theorem en_u (hp : PenAt H p m) (h : EvU te σ H xs) : ∀ H1, Ex H H1 → ∀ Q : VK, (∀ x H2, Ex H1 H2 → AnyN p H2 x → Q x H2) → te σ H1 Q := fun H1 e Q q => h H1 e _ fun l H2 hl e2 h2 => q _ H2 e2 ⟨.inr (.inr ⟨l, rfl, (hp.keep e).ne_new hl, .inr (.inl ⟨_, h2⟩)⟩), fun _ z => nomatch z⟩
theorem en_d (hp : PenAt H p m) : ∀ H1, Ex H H1 → ∀ Q : VK, (∀ x H2, Ex H1 H2 → AnyN p H2 x → Q x H2) → tDNewK σ H1 Q := fun H1 e Q q l hl => q _ _ (Ex.new hl) ⟨.inr (.inr ⟨l, rfl, (hp.keep e).ne_new hl, .inr (.inr ⟨_, upd_same⟩)⟩), fun _ z => nomatch z⟩
theorem pick_ns (hs : σ[j]? = some (some (.ref p))) (pen : PenL H p lc n) (hn : n < 100000) (h : EvNs p ta σ H k) (h0 : 0 < k) (h1 : k ≤ 1000) (q : ∀ x H', AnyN p H' x → ExP p H H' → PenL H' p lc (n + 1) → Q x H') : tCall spPick [] E (tCons (tVar j) (tCons (tLst ta) tNil)) σ H Q :=
  pick_raw hs (h H (Ex.refl H) _ fun xs H1 e1 l all => ⟨sz_of (by omega), fun s hs1 => by
    have en := Ex.new hs1 (o := .lst xs)
    exact pk_list (lc := lc) (pen.keep (e1.trans en)) hn upd_same ((pen.keep e1).pen.ne_new hs1) (by omega) (by omega) fun x H2 hx e2 pen2 => q x H2 ⟨((all x hx).1.st (StP.of en)).st (StP.ofB e2.ex), (all x hx).2⟩ ((ExP.of (e1.trans en)).trans e2) pen2⟩)
end

def EvCh (a : Ads) (te : TE) (σ : L2.St) (H : Hp) (cs : List Cl) : Prop := ∀ H1, Ex H H1 → ∀ Q : VK, (∀ b ps H2, H1 b = none → Ex H1 H2 → ChX a H2 b ps cs → Q (.ref b) H2) → te σ H1 Q
theorem no_comma : ∀ who ∈ allWho, ∀ sign ∈ allSign, ∀ what ∈ allw, 44 ∉ (clTxt who sign what).cps.toList ∧ clOf (clTxt who sign what) = some (who, sign, what) := by decide +kernel
theorem page_parts {cs : List Cl} (ok : ∀ c ∈ cs, clOk c) (pos : 0 < cs.length) : partsC (Txt.join "," (cs.map clText)) = cs.map some := by
  unfold partsC
  rw [TL.split_join comma (by decide +kernel) (fun z => by rw [List.map_eq_nil_iff] at z; rw [z] at pos; exact absurd pos (by decide)) fun p hp => ?_]
  · rw [List.map_map]
    refine List.map_congr_left fun c hc => ?_
    have o := ok c hc
    exact (no_comma _ o.who _ o.sign _ o.what).2
  · obtain ⟨c, hc, rfl⟩ := List.mem_map.mp hp
    have o := ok c hc
    exact (no_comma _ o.who _ o.sign _ o.what).1
theorem page_size {cs : List Cl} (ok : ∀ c ∈ cs, clOk c) : (Txt.join "," (cs.map clText)).cps.size ≤ cs.length * 9 := by
  have h1 := join_mass (cs.map clText)
  have h2 := texts_sum cs ok
  rw [List.map_map] at h2
  unfold mass at h1
  rw [List.map_map, List.length_map] at h1
  have e : (cs.map ((fun x : Str => x.length) ∘ clText)).sum = (cs.map ((fun p : Str => p.cps.size) ∘ clText)).sum := rfl
  have e2 : (cs.map ((fun x => x.length) ∘ clText)).sum ≤ cs.length * 8 := h2
  omega
section
variable {K : PySem.W.Frag} {a : Ads} {σ : L2.St} {H : Hp} {te t1 t2 : TE} {cs : List Cl} {p : Addr} {ps : List Addr} {E : XK} {Q : VK} {s : Str} {D : Ends} {tz : TS} {tgs : TGs} {y : V}
theorem reads_ok (sz : s.cps.size ≤ 1000) (pc : partsC s = cs.map some) (dn : dueC (cs.map some) = none) (k : ∀ b ps H2, H b = none → Ex H H2 → ChX a H2 b ps cs → Q (.ref b) H2) : spCReadA a [.ref a.f_Change, .str s] H Q E := by
  have no : dueS (.str s) = none := by rw [dueS_of, show csOf (.str s) = cs.map some from pc, dn]
  refine ⟨.str s, rfl, anyS sz, fun s' es r H2 ex pcs _ hr e ⟨rs, cr⟩ => ?_, (fun n hn => ?_), (fun hn => ?_)⟩
  · cases ex
    rw [pc] at pcs
    obtain rfl : cs = es := (List.map_inj_right (fun _ _ z => by injection z)).mp pcs
    exact k r rs H2 hr e cr
  · rw [no] at hn
    cases hn
  · rw [no] at hn
    cases hn
theorem ech_read (h : Ev te σ H (.str s)) (sz : s.cps.size ≤ 1000) (pc : partsC s = cs.map some) (dn : dueC (cs.map some) = none) : EvCh a (ClX.tCMeth a.f_Change (fun vs H Q E => spCReadA a (vs ++ []) H Q E) E (tC (.ref a.f_Change)) (tCons te tNil)) σ H cs := fun H1 e Q q =>
  ⟨rfl, h H1 e _ fun H2 e2 => reads_ok sz pc dn fun b ps H3 hb e3 c => q b ps H3 (fresh_back e2 hb) (e2.trans e3) c⟩
theorem ech_readK (h : Ev te σ H (.str s)) (sz : s.cps.size ≤ 1000) (pc : partsC s = cs.map some) (dn : dueC (cs.map some) = none) : EvCh a (tCMethK a.f_Change (spCReadA a) gC1 E (tC (.ref a.f_Change)) (tCons te tNil)) σ H cs := fun H1 e Q q =>
  ⟨rfl, h H1 e _ fun H2 e2 => reads_ok sz pc dn fun b ps H3 hb e3 c => q b ps H3 (fresh_back e2 hb) (e2.trans e3) c⟩
theorem eq_chN (h1 : EvCh a t1 σ H cs) (h2 : ∀ H1, Ex H H1 → Ev t2 σ H1 (.ref p)) (c : ChX a H p ps cs) (ty : ∀ H', Ex H H' → TyX K H' (.ref p) (.ref a.f_Change)) : Ev (tOp (KD.rOwnB K a.f_Change (spChEq K a) E) t1 t2) σ H (.bl true) := fun H1 e Q q =>
  h1 H1 e _ fun b qs H2 _ e2 d => h2 H2 (e.trans e2) H2 (Ex.refl _) _ fun H3 e3 => by
    have d3 := d.kt (KeepT.of e3)
    have x3 := (e.trans e2).trans e3
    obtain ⟨dx, ct, tt, hb, _⟩ := id d3
    exact ⟨b, dx, _, _, rfl, hb, ty H3 x3, KV.notFirst_self, b, qs, cs, .ref p, true, rfl, d3, .same p ps (c.kt (KeepT.of x3)), fun H4 e4 => q H4 ((e2.trans e3).trans e4)⟩
theorem eq_chO {t : String} (h1 : Ev t1 σ H (.ref p)) (c : ChX a H p ps cs) (h2 : Ev t2 σ H y) (ty : TyE K H y t) (ht : t ∈ (["str", "tuple", "NoneType"] : List String)) (nf : PySem.W.notFirst K a.f_Change (.type t) = true) : Ev (tOp (KD.rOwnB K a.f_Change (spChEq K a) E) t1 t2) σ H (.bl false) := fun H1 e Q q =>
  h1 H1 e _ fun H2 e2 => h2 H2 (e.trans e2) _ fun H3 e3 => by
    have x3 := (e.trans e2).trans e3
    have d3 := c.kt (KeepT.of x3)
    obtain ⟨dx, ct, tt, hb, _⟩ := id d3
    exact ⟨p, dx, _, _, rfl, hb, ty H3 x3, nf, p, ps, cs, y, false, rfl, d3, .odd y t ht (fun H' e' => ty H' (x3.trans e')), fun H4 e4 => q H4 ((e2.trans e3).trans e4)⟩
theorem to_shownN (h : EvCh a te σ H cs) (hl : cs.length ≤ 16) : EvTo (tCall (spShown a) [] E (tCons te tNil)) σ H cs := fun H1 e Q q =>
  h H1 e _ fun b ps H2 _ e2 c => ⟨b, ps, cs, rfl, c, hl, fun l H3 hl3 e3 t3 => q l H3 (e2.trans e3) t3⟩
theorem q_tup2 {k : Nat} (h : t1 σ H fun v H1 => t2 σ H1 fun w H2 => [v, w].length ≤ sizeLine ∧ ∀ l, H2 l = none → ∃ b xs, V.ref l = .ref b ∧ SqT K (upd H2 l (.tup [v, w])) b xs ∧ xs.length = k ∧ tgs xs σ (upd H2 l (.tup [v, w])) (tz D)) : tSeq (tAsg (tTup (tCons t1 (tCons t2 tNil))) (gTup K k tgs)) tz D σ H := h
end
def spLaw (a : Ads) (K : PySem.W.Frag) : Sp := fun vs H Q _ => ∃ (s : Addr) (ns : List Int), vs = [.ref s] ∧ SqL K H s (ns.map V.int) ∧ ns.length ≤ 63 ∧ H a.P0 = some (.tbl #[]) ∧ H a.PM = some (.tbl #[]) ∧ H a.PJ = some (.tbl #[]) ∧ ∀ H', Q (.bl true) H'
section
variable {P : Program} {w : World} {K : PySem.W.Frag} {mg : Str → Option Value} {base : Heap} {a : Ads}
theorem ok_law (T : Txt w K mg a) {fL : Addr} {oc kV doc pm ct : Value} {od an : Option Addr} {osl : Array (Option Value)} (lkL : K.lookup fL = some ⟨oc, od, .func (PySem.W.fnOf "law" "law" (defArgs s_law) (defBody s_law) (defScope s_law) .none kV doc pm an (.ref a.cA) ct), osl⟩) (hcdL : PySem.W.codeIn K (.ref a.cA) "law" = true) (TBA : TabB base mg a.cA a.P0) (TBM : TabB base mg a.cM a.PM) (TBJ : TabB base mg a.cJ a.PJ) :
    KD.FnG P w K mg base 13 fL (PySem.W.fnOf "law" "law" (defArgs s_law) (defBody s_law) (defScope s_law) .none kV doc pm an (.ref a.cA) ct) ["_law_script"] (spLaw a K) := by
  have G__law_pen : FnOk P w K mg base CX0 12 _ _ _ _ := (ok_pen T).mono (by decide)
  have G__law_draw : FnOk P w K mg base CX0 12 _ _ _ _ := (ok_draw T).mono (by decide)
  have G__law_pick : FnOk P w K mg base CX0 12 _ _ _ _ := (ok_pick T).mono (by decide)
  have G__law_clause : FnOk P w K mg base CX0 12 _ _ _ _ := (ok_cl T).mono (by decide)
  have G__law_made : FnOk P w K mg base CX0 12 _ _ _ _ := (ok_made T).mono (by decide)
  have G__law_shown : FnOk P w K mg base CX0 12 _ _ _ _ := (ok_shown T).mono (by decide)
  have G__law_change_text : FnOk P w K mg base CX0 12 _ _ _ _ := (ok_change_text T).mono (by decide)
  have G__law_call : FnOk P w K mg base (L2.CX P w) 12 _ _ _ _ := (ok_call T).mono (by decide)
  have G__law_text_due : FnOk P w K mg base CX0 12 _ _ _ _ := (ok_td T).mono (by decide)
  have G__law_bent : FnOk P w K mg base CX0 12 _ _ _ _ := (ok_bent T).mono (by decide)
  have G__law_made_right : FnOk P w K mg base CX0 12 _ _ _ _ := ok_made_right T TBM
  have G__law_joined_right : FnOk P w K mg base CX0 12 _ _ _ _ := ok_joined_right T TBJ
  have G_Change_read : FnOk P w K mg base (L2.CX P w) 12 _ _ _ _ := (ok_Change_read T).mono (by decide)
  have L_Change_read : FnOk P w K mg base (L2.CX P w) 8 _ _ _ _ := ok_Change_read T
  have G_ChangeD_strD : FnOk P w K mg base CX0 9 _ _ _ _ := (ok_Change_str T).mono (by decide)
  have G_eqC : FnOk P w K mg base CX0 12 _ _ _ _ := (ok_Change_eq T).mono (by decide)
  have G_Change_clauses : FnOk P w K mg base CX0 11 _ _ _ _ := (ok_Change_clauses T).mono (by decide)
  refine KD.fnG_of lkL hcdL sc_law (fun vs H Q E h => ?_) fun A outer s H vs Q E gd hr h => ?_
  · obtain ⟨_, _, rfl, _⟩ := h
    rfl
  · obtain ⟨sc, ns, rfl, hs, hl, tA, tM, tJ, kk⟩ := h
    have hrc : Room 12 _ := hr
    have hrm : Room (11 + 1) _ := hr
    have hrs : Room (9 + 2) _ := hr.mono (by decide)
    have hr10 : Room 10 _ := hrc.mono (by decide)
    obtain ⟨ocH, odH, kVH, docH, pmH, anH, cdvH, ctH, oslH, eH, lkH, hcdH⟩ := id T.fn__law_heard.ex
    have hbH := bd__law_heard T
    rw [eH] at lkH hbH
    refine ⟨_, (show PSs (cxOf CX0 P w K mg base n_law "law" (defScope s_law) fL (.ref a.cA) A outer s H E).nox (defBody s_law) _ from (pss_cons (ps_set (i := 1) sc_law.nd rfl (Or.inr rfl) (pe_call G__law_pen hrc rfl T.mg__law_pen T.fn__law_pen.kp (bd__law_pen T) .nil pass0 (pa_cons (pv 0) pa_nil)))
    (pss_cons (ps_for PassesOwn.never rfl (pi_range1 rfl T.b_range (pa_cons pe_int pa_nil)) (pg_name (i := 2) sc_law.nd rfl (Or.inl rfl)) (pss_cons (ps_setLc (i := 3) (own := [("_law_k", 10)]) (g := gName 10) rfl sc_law.nd rfl rfl (sw_true rfl rfl rfl (by decide +kernel)) (pi_range1 rfl T.b_range (pa_cons (pe_op op_add pe_int (pe_call G__law_draw hrc rfl T.mg__law_draw T.fn__law_draw.kp (bd__law_draw T) .nil pass0 (pa_cons (pv 1) (pa_cons pe_int pa_nil)))) pa_nil)) (blkOk_by (own := [("_law_k", 10)]) (N := n_law) (sc := defScope s_law) (by decide +kernel)) (fun _ _ _ _ _ => (pg_name (i := 10) sc_law.nd rfl (Or.inl rfl))) (fun _ _ _ _ _ => pts_nil) (fun _ _ _ _ _ => (pe_call G__law_clause hrc rfl T.mg__law_clause T.fn__law_clause.kp (bd__law_clause T) .nil pass0 (pa_cons (pv 1) pa_nil))))
    (pss_cons (ps_asg (pe_tup (pa_cons (pe_call G__law_call hrc rfl T.mg__law_call T.fn__law_call.kp (bd__law_call T) .nil passL (pa_cons (pe_call G__law_made hrc rfl T.mg__law_made T.fn__law_made.kp (bd__law_made T) .nil pass0 (pa_cons (pv 3) pa_nil)) pa_nil)) (pa_cons (pe_call G__law_change_text hrc rfl T.mg__law_change_text T.fn__law_change_text.kp (bd__law_change_text T) .nil pass0 (pa_cons (pv 3) pa_nil)) pa_nil))) (pg_tup rfl (pgs_cons (pg_name (i := 4) sc_law.nd rfl (Or.inr rfl)) (pgs_cons (pg_name (i := 5) sc_law.nd rfl (Or.inl rfl)) pgs_nil))))
    (pss_cons (ps_if (PW.pt (pw_or (pt_cmpR op_ne (pe_callTy (KL.call_strOwn T.m_ChangeD_strD.at_ T.m_ChangeD_strD.fn (G_ChangeD_strD.raw (bd_ChangeD_strD T) .nil) hrs pass0) (by rfl) T.b_str (by decide +kernel) (pa_cons (pv 4) pa_nil)) (pv 5) (nomark _)) (pw_or (pt_not (pt_cmpR (KD.op_ownB (op := .Eq) (by intro _ _; rfl) T.m_ChangeD_eqD.at_ T.m_ChangeD_eqD.fn (G_eqC.raw (bd_ChangeD_eqD T) .nil) hrc pass0) (pe_cmethK (pe_glob (v := .ref a.f_Change) rfl T.mg_Change rfl) T.r_Change T.m_Change_read G_Change_read hrc (kb_Cread T) passL (pk_cons (pv 5) pk_nil)) (pv 4) (nomark _))) (pw_or1 (pt_cmpR (op_neD hr.units) (pe_call G__law_shown hrc rfl T.mg__law_shown T.fn__law_shown.kp (bd__law_shown T) .nil pass0 (pa_cons (ClX.pe_cmeth (pe_glob (v := .ref a.f_Change) rfl T.mg_Change rfl) T.r_Change T.m_Change_read (G_Change_read.raw (bd_Change_read T) .nil) hrc passL (pa_cons (pv 5) pa_nil)) pa_nil)) (pv 3) (nomark _)))))) (pss_one (ps_ret pe_bl)) pss_nil)
    (pss_cons (ps_if (pt_cmpR (KV.op_neNilL rfl hr.units) (pe_lc (own := [("_law_thing", 6)]) (g := gName 6) rfl sc_law.nd (pi_tup (pe_tup (pa_cons (pv 5) (pa_cons (pe_prop (pv 4) T.c_Change T.p_Change_clauses (G_Change_clauses) hrm (bd_Change_clauses T) .nil pass0 rfl) (pa_cons pe_non pa_nil))))) (blkOk_by (own := [("_law_thing", 6)]) (N := n_law) (sc := defScope s_law) (by decide +kernel)) (fun _ _ _ _ _ => (pg_name (i := 6) sc_law.nd rfl (Or.inl rfl))) (fun _ _ _ _ _ => (pts_one (pt_cmpR (op_ownBE (K := K) rfl (op := .Eq) (by intro _ _; rfl) T.m_ChangeD_eqD.at_ T.m_ChangeD_eqD.fn (G_eqC.raw (bd_ChangeD_eqD T) .nil) hrc pass0) (pv 4) (pv 6) (nomark _)))) (fun _ _ _ _ _ => (pv 6))) (pe_lst pa_nil) (nomark _)) (pss_one (ps_ret pe_bl)) pss_nil)
    (pss_cons (ps_if (PW.pt (pw_or (pt_not (pt_val (pe_call G__law_made_right hrc rfl T.mg__law_made_right T.fn__law_made_right.kp (bd__law_made_right T) .nil pass0 (pa_cons (pv 1) pa_nil)))) (pw_or1 (pt_not (pt_val (pe_call G__law_joined_right hrc rfl T.mg__law_joined_right T.fn__law_joined_right.kp (bd__law_joined_right T) .nil pass0 (pa_cons (pv 1) (pa_cons (pv 3) (pa_cons (pv 4) pa_nil))))))))) (pss_one (ps_ret pe_bl)) pss_nil)
    (pss_cons (ps_set (i := 9) sc_law.nd rfl (Or.inr rfl) (pe_call G__law_bent hrc rfl T.mg__law_bent T.fn__law_bent.kp (bd__law_bent T) .nil pass0 (pa_cons (pv 1) (pa_cons (pe_call G__law_bent hrc rfl T.mg__law_bent T.fn__law_bent.kp (bd__law_bent T) .nil pass0 (pa_cons (pv 1) (pa_cons (pv 5) pa_nil))) pa_nil))))
    (pss_cons (ps_par (i := 7) (j := 8) rfl sc_law.nd rfl rfl (by decide) rfl rfl (pa_cons (pe_call G__law_text_due hrc rfl T.mg__law_text_due T.fn__law_text_due.kp (bd__law_text_due T) .nil pass0 (pa_cons (pv 9) pa_nil)) (pa_cons (LamX.pe_lamcall (T := tabsT a) (TT := THeard a) rfl T.mg__law_heard T.fn__law_heard.kp lkH hcdH hbH sc__law_heard rfl (Or.inl rfl) (heard_gives T) TBA rfl (List.mem_cons_self ..) (tabs_uA T) (k := 8) hr10 (LamX.lamS_by (show LamX.lamSB (defScope s_law) _ = true by decide +kernel)) rfl (fun _ _ _ _ _ => rfl) (fun _ _ _ _ _ _ _ hr2 => (ClX.pe_cmeth (pe_glob (v := .ref a.f_Change) rfl T.mg_Change rfl) T.r_Change T.m_Change_read (L_Change_read.raw (bd_Change_read T) .nil) hr2 (passes_call (takes_of rfl rfl rfl rfl) fun _ _ _ _ h => h) (pa_cons (pv 9) pa_nil)))) pa_nil)) (by rfl))
    (pss_one (ps_if (PW.pt (pw_or (PW.pt (pw_and (pt_cmpR op_notN (pv 7) pe_non (nomark _)) (pw_and1 (pt_cmpR (op_neD hr.units) (pv 8) (pv 7) (nomark _))))) (pw_or1 (PW.pt (pw_and (pt_cmpR op_isN (pv 7) pe_non (nomark _)) (pw_and1 (pt_not (pt_val (pe_callB call_isi (by rfl) T.b_isinstance PyProof.Rows.boot_isinstance (pa_cons (pv 8) (pa_cons (pe_bltn (v := .ty "list") (by rfl) T.b_list (by decide +kernel) rfl) pa_nil))))))))))) (pss_one (ps_ret pe_bl)) pss_nil))))))))))
    (pss_cons (ps_set (i := 6) sc_law.nd rfl (Or.inr rfl) (pe_call G__law_pick hrc rfl T.mg__law_pick T.fn__law_pick.kp (bd__law_pick T) .nil pass0 (pa_cons (pv 1) (pa_cons (pe_lst (pa_cons pe_non (pa_cons pe_int (pa_cons pe_bl (pa_cons (pe_lst (pa_cons pe_str pa_nil)) (pa_cons pe_dnewK pa_nil)))))) pa_nil))))
    (pss_one (ps_ret (pe_and (pe_cmpR (op_eqD hr.units) (LamX.pe_lamcall (T := tabsT a) (TT := THeard a) rfl T.mg__law_heard T.fn__law_heard.kp lkH hcdH hbH sc__law_heard rfl (Or.inl rfl) (heard_gives T) TBA rfl (List.mem_cons_self ..) (tabs_uA T) (k := 8) hr10 (LamX.lamS_by (show LamX.lamSB (defScope s_law) _ = true by decide +kernel)) rfl (fun _ _ _ _ _ => rfl) (fun _ _ _ _ _ _ _ hr2 => (ClX.pe_cmeth (pe_glob (v := .ref a.f_Change) rfl T.mg_Change rfl) T.r_Change T.m_Change_read (L_Change_read.raw (bd_Change_read T) .nil) hr2 (passes_call (takes_of rfl rfl rfl rfl) fun _ _ _ _ h => h) (pa_cons (pv 6) pa_nil)))) (pe_tup (pa_cons pe_str (pa_cons pe_int pa_nil))) (nomark _)) (pe_one (pe_cmpR op_eq (ClX.pe_cval (pe_glob (v := .ref a.f_Change) rfl T.mg_Change rfl)) pe_int (nomark _)))))))))), ?_⟩
    refine ⟨.ref sc, rfl, sc, ns, rfl, hs, hl, fun p H1 hp e1 pen1 => ?_⟩
    obtain ⟨lc, pen1⟩ := pen1.fixL
    have tab1 : Tabs (tabsT a) H1 := fun q hq => by
      simp only [List.mem_cons, List.not_mem_nil, or_false] at hq
      rcases hq with rfl | rfl | rfl
      · exact TabS.nil (e1 _ _ tA)
      · exact TabS.nil (e1 _ _ tM)
      · exact TabS.nil (e1 _ _ tJ)
    refine q_forR1 (n := 8) (ea_cons ev_c ea_nil) (by decide) (fun i σ' H' => ∃ o2 o3 o4 o5 o6 o7 o8 o9 o10, σ' = [some (.ref sc), some (.ref p), o2, o3, o4, o5, o6, o7, o8, o9, o10] ∧ PenL H' p lc (100 * i) ∧ Tabs (tabsT a) H') (fun H2 e2 => ⟨_, _, _, _, _, _, _, _, _, rfl, pen1.keep e2, tabs_keep tab1 e2⟩) (fun i σ' H2 hi q => ?_) (fun σ' H2 q => ?_)
    · obtain ⟨o2, o3, o4, o5, o6, o7, o8, o9, o10, rfl, pen2, tab2⟩ := q
      have hi8 : i < 8 := by omega
      refine q_asgD2 (lc_rng1 (add_raw (draw_r (p := p) (lc := lc) 8 rfl ev_c pen2 (by omega) (by decide) (by decide) fun d H3 hd x3 pen3 => ⟨1, (d : Nat), rfl, rfl, ⟨((1 + d : Nat) : Int), by rw [Int.natCast_add]; rfl, by omega, by omega, ?_⟩⟩)))
      refine lc_cls (n := 1 + d) (p := p) (lc := lc) (k := 100 * i + 1) (fun _ => rfl) (fun _ => rfl) pen3 (by omega) (by omega) fun tl cs H4 htl lcs okc x4 pen4 told4 tlp => ?_
      have x24 := x3.trans x4
      have pen4 := pen4.more (m := 100 * i + 30) (by omega)
      have tab4 := tabs_pen tab2 pen2.pen x24.ex
      have dn : dueC (cs.map some) = none := dueC_some (by omega) (by omega)
      refine q_tup2 ⟨.ref tl, rfl, tl, cs, rfl, told4, okc, by omega, fun sp ps H5 hsp e5 h5 cls5 => ⟨sp, ps.map V.ref, cs.map some, rfl, h5, by rw [List.length_map, cls5.1]; omega, fits_cls cls5, ⟨fun ds qs cp H6 eq exs _ hcp e6 ch6 => ?_, fun n hn => ?_, fun hn => ?_⟩⟩⟩
      rotate_left
      · rw [dn] at hn
        cases hn
      · rw [dn] at hn
        cases hn
      obtain rfl : cs = ds := (List.map_inj_right (fun _ _ z => by injection z)).mp eq
      refine ⟨.ref tl, rfl, tl, cs, rfl, told4.mono (e5.trans e6), okc, by omega, fun H7 e7 => ⟨by show 2 ≤ sizeLine; decide, fun u hu => ⟨u, _, rfl, st_of upd_same, rfl, ⟨_, _, rfl, ⟨_, _, rfl, rfl, ?_⟩⟩⟩⟩⟩
      have pp := page_parts okc (by omega : 0 < cs.length)
      have pz := page_size okc
      generalize hpg : Txt.join "," (cs.map clText) = page at pp pz
      have e68 : Ex H6 (upd H7 u (.tup [.ref cp, .str page])) := e7.trans (Ex.new hu)
      show tSeq _ _ _ _ (upd H7 u (.tup [.ref cp, .str page]))
      generalize upd H7 u (.tup [.ref cp, .str page]) = H8 at e68
      have e48 := (e5.trans e6).trans e68
      have pen8 := pen4.keep e48
      have tab8 := tabs_keep tab4 e48
      have told8 := told4.mono e48
      have ch8 := ch6.kt (KeepT.of e68)
      have cz : cs.length ≤ 8 := by omega
      have pos : 0 < cs.length := by omega
      obtain ⟨dx, ct, tt, ho8, seq8, _⟩ := id ch8
      refine q_when (b := false) (et_is (et_or (a := false) (b := false) (et_is (et_test (ev_op (ev_strOwn (s := page) (ev_var rfl) ho8 fun H9 e9 Q9 q9 E9 => ⟨cp, qs, cs, rfl, ch8.kt (KeepT.of e9), okc, cz, fun H10 e10 => ?_⟩) (ev_var rfl) (rv_ne rfl))) (by simp)) fun _ => et_is (et_or (a := false) (b := false) (et_is (et_not (a := true) (et_test (eq_chN (K := K) (ech_readK (ev_var rfl) (by omega) pp dn) (fun _ _ => ev_var rfl) ch8 (fun H' e' => tyx_change T (ch8.kt (KeepT.of e')))))) rfl) fun _ => et_is (et_test (ev_neTo (K := K) (to_shownN (ech_read (ev_var rfl) (by omega) pp dn) (by omega)) (fun _ e => to_var (ev_var rfl) (told8.mono e)) okc okc)) (by simp)) rfl) rfl) (fun z => nomatch z) fun _ H9 e9 => ?_
      · rw [hpg]
        exact q9 H10 e10
      have ch9 := ch8.kt (KeepT.of e9)
      obtain ⟨dx9, ct9, tt9, ho9, seq9, _⟩ := id ch9
      refine q_when (b := false) (et_test (KV.ev_eqNilN (K := K) (neg := true) (xs := []) (el_is (el_lcW (xs := [.str page, .ref ct9, .non]) (fun _ => false) (fun _ => .non) (ew_u (eu_tup (ea_cons (ev_var rfl) (ea_cons (ev_prop (ev_var rfl) ho9 (spv_get ho9 (chFs_at _ _))) (ea_cons ev_c ea_nil))) (by show 3 ≤ 100000; decide))) (by show 3 ≤ 40000; decide) (fun _ => rfl) (fun k x H10 e10 hx => ?_) (fun _ _ _ _ _ z => nomatch z)) rfl) (el_lst (vs := []) ea_nil (by decide)))) (fun z => nomatch z) fun _ H10 e10 => ?_
      · have ch10 := ch9.kt (KeepT.of e10)
        match k, hx with
        | 0, hx =>
          obtain rfl : V.str page = x := Option.some.inj hx
          exact et_test (eq_chO (K := K) (ev_var rfl) ch10 (ev_var rfl) (fun _ _ => .base (.str _)) (by simp) T.nf_Change_str)
        | 1, hx =>
          obtain rfl : V.ref ct9 = x := Option.some.inj hx
          exact et_test (eq_chO (K := K) (ev_var rfl) ch10 (ev_var rfl) (fun H' e' => .base (.tup (e' _ _ (e10 _ _ seq9)))) (by simp) T.nf_Change_tuple)
        | 2, hx =>
          obtain rfl : V.non = x := Option.some.inj hx
          exact et_test (eq_chO (K := K) (ev_var rfl) ch10 (ev_var rfl) (fun _ _ => .base .non) (by simp) T.nf_Change_NoneType)
      have e810 := e9.trans e10
      have pen10 := pen8.keep e810
      have tab10 := tabs_keep tab8 e810
      have told10 := told8.mono e810
      have ch10 := ch8.kt (KeepT.of e810)
      refine q_ifRaw (M := fun σ2 H13 => σ2 = [some (.ref sc), some (.ref p), some (.int (i : Nat)), some (.ref tl), some (.ref cp), some (.str page), o6, o7, o8, o9, o10] ∧ PenL H13 p lc (100 * i + 90) ∧ Tabs (tabsT a) H13) (fun kM => ⟨.ref p, rfl, p, lc, 100 * i + 30, rfl, pen10, by omega, tab10, fun H11 pen11 tab11 s11 => ⟨true, rfl, iteC (fun z => nomatch z) fun _ => ?_⟩⟩) fun σ2 H13 ⟨eσ, pen13, tab13⟩ => ?_
      · have ch11 := ch10.kt (KeepT.ofS pen10.pen s11)
        have told11 := told10.st pen10.pen tlp s11
        exact ⟨.ref p, rfl, .ref tl, rfl, .ref cp, rfl, p, lc, _, tl, cp, qs, cs, rfl, pen11, by omega, tab11, told11, tlp, okc, pos, cz, ch11, fun H12 pen12 tab12 s12 => ⟨true, rfl, iteC (fun z => nomatch z) fun _ => kM _ _ ⟨rfl, pen12.more (by omega), tab12⟩⟩⟩
      subst eσ
      refine q_asgD ⟨.ref p, rfl, .ref p, rfl, .str page, rfl, p, lc, 100 * i + 90, page, rfl, pen13, by omega, by omega, fun s2 H14 z2 x14 pen14 => ⟨p, lc, _, s2, rfl, pen14, by omega, by omega, fun s3 H15 z3 x15 pen15 => ?_⟩⟩
      have x1315 := x14.trans x15
      have tab15 := tabs_pen tab13 pen13.pen x1315.ex
      refine q_parD ⟨.str s3, rfl, s3, rfl, by omega, fun v16 H16 e16 d16 => heard_read (x := .str s3) (tabs_keep tab15 e16) (fun H' _ => anyS (by omega)) (fun _ => ev_var rfl) fun v17 H17 eN17 tab17 hc17 => ⟨_, _, rfl, ?_⟩⟩
      have pen17 := (pen15.keep e16).keepN eN17
      have d17 := d16.kt (KeepT.ofN eN17)
      have fin : ∀ H18, Ex H17 H18 → ∃ u2 u3 u4 u5 u6 u7 u8 u9 u10, ([some (.ref sc), some (.ref p), some (.int (i : Nat)), some (.ref tl), some (.ref cp), some (.str page), o6, some v16, some v17, some (.str s3), o10] : L2.St) = [some (.ref sc), some (.ref p), u2, u3, u4, u5, u6, u7, u8, u9, u10] ∧ PenL H18 p lc (100 * (i + 1)) ∧ Tabs (tabsT a) H18 := fun H18 e18 => ⟨_, _, _, _, _, _, _, _, _, rfl, (pen17.keep e18).more (by omega), tabs_keep tab17 e18⟩
      have hc17 : HC a H17 v17 (partsC s3) := hc17
      cases hd : dueC (partsC s3) with
      | some r =>
        rw [hd] at d17
        unfold HC at hc17
        rw [hd] at hc17
        obtain ⟨t1, rfl, g1⟩ := d17
        obtain ⟨t2, rfl, g2⟩ := hc17
        exact s_if (b := false) (et_or (a := false) (b := false) (et_and (a := true) (b := false) (et_is (et_test (ev_op (ev_var rfl) ev_c rv_notN)) rfl) fun _ => et_test (ev_op (ev_var rfl) (ev_var rfl) (rv_word (K := K) g2 g1 (word_ok r)).2)) fun _ => et_and (a := false) (b := true) (et_is (et_test (ev_op (ev_var rfl) ev_c rv_isN)) rfl) fun z => nomatch z) (fun z => nomatch z) fun _ H18 e18 => fin H18 e18
      | none =>
        rw [hd] at d17
        unfold HC at hc17
        rw [hd] at hc17
        obtain rfl : v16 = .non := d17
        obtain ⟨hl2, q2, ps2, ds2, _, rfl, g2, _⟩ := hc17
        exact s_if (b := false) (et_or (a := false) (b := false) (et_and (a := false) (b := true) (et_is (et_test (ev_op (ev_var rfl) ev_c rv_notN)) rfl) fun z => nomatch z) fun _ => et_and (a := true) (b := false) (et_is (et_test (ev_op (ev_var rfl) ev_c rv_isN)) rfl) fun _ => et_not (a := true) (et_B (ev_isi (ea_cons (ev_var rfl) (ea_cons ev_c ea_nil)) (.ty _) (fun H' e' => .base (.lst (e' _ _ g2))) (kit_ty (by decide +kernel))))) (fun z => nomatch z) fun _ H18 e18 => fin H18 e18
    · obtain ⟨o2, o3, o4, o5, o6, o7, o8, o9, o10, rfl, pen2, tab2⟩ := q
      obtain ⟨tm, hm⟩ := T.k_Change_MOST
      refine q_asgD (pick_ns (p := p) (k := 5) rfl pen2 (by omega) (ens_cons (en_c (.inr (.inl (.inl rfl))) fun _ z => nomatch z) (ens_cons (en_c (.inr (.inl (.inr (.inr ⟨_, rfl⟩)))) fun _ z => nomatch z) (ens_cons (en_c (.inr (.inl (.inr (.inl ⟨_, rfl⟩)))) fun _ z => nomatch z) (ens_cons (en_l pen2.pen (el_lst (vs := [.str "u+r"]) (ea_cons ev_c ea_nil) (by show 1 ≤ 100000; decide))) (ens_cons (en_d pen2.pen) ens_nil))))) (by decide) (by decide) fun x H3 ⟨ax, nx⟩ x3 pen3 => ?_)
      have tab3 := tabs_pen tab2 pen2.pen x3.ex
      have ex : csOf x = [] := by
        cases x with
        | str s => exact absurd rfl (nx s)
        | _ => rfl
      refine ret_raw (heard_read (x := x) tab3 (fun H' eN => (ax.st (StP.ofN eN)).any) (fun _ => ev_var rfl) fun v H4 eN4 tab4 hc4 => ?_)
      rw [ex] at hc4
      have hc4 : ∃ t, v = .ref t ∧ H4 t = some (.tup [.str "clause", .int 0]) := hc4
      obtain ⟨t, rfl, ht⟩ := hc4
      refine (eu_tup (vs := [.str "clause", .int 0]) (ea_cons ev_c (ea_cons ev_c ea_nil)) (by show 2 ≤ 100000; decide)) H4 (Ex.refl _) _ fun u H5 _ e5 h5 => (rv_word (K := K) (w := "clause") (n := 0) (e5 _ _ ht) h5 (word_ok (some 0))).1 H5 (Ex.refl _) _ fun H6 e6 => ⟨true, rfl, iteC (fun _ => (ev_is (ev_op (ev_cval ev_c T.r_Change hm) ev_c (rv_eq rfl)) rfl : Ev _ _ H6 (.bl true)) H6 (Ex.refl _) _ fun H7 _ => kk H7) fun z => nomatch z⟩
end
end KL
set_option Elab.async false
set_option linter.all false
set_option maxRecDepth 100000
set_option maxHeartbeats 4000000
namespace KL
open PySem PySem.Spec PyProof.Rows L2 Evl KF
local macro_rules | `(tactic| walk_at "ev") => `(tactic| repeat' (first | exact ev_c | exact ev_var rfl | exact rv_I0 | refine' rv_I ?_ | refine' rv_eq ?_ | refine' rv_ne ?_ | refine' ev_op ?_ ?_ ?_ | exact ea_nil | refine' ea_cons ?_ ?_ | refine' et_test ?_ | refine' et_B ?_ | refine' et_not ?_ | refine' ev_notV ?_))

open PySem
theorem kit_self {K : PySem.W.Frag} {C : Addr} : PySem.W.kitOne K (.ref C) (.ref C) = some true := by
  unfold PySem.W.kitOne
  rw [if_pos (beq_iff_eq.mpr rfl)]
theorem kit_no {K : PySem.W.Frag} {C : Addr} {cd : PySem.ClassData} (ci : PySem.W.clsIn K C = some cd) (ti : PySem.W.typeIn K (.ref C) = some (.type "type")) (su : PySem.W.subIn K (.type "int") (.ref C) = some false) : PySem.W.kitOne K (.type "int") (.ref C) = some false := by
  unfold PySem.W.kitOne PySem.W.kitCls
  rw [if_neg (fun h => by have := beq_iff_eq.mp h; cases this)]
  show (if ((PySem.W.clsIn K C).isSome && PySem.W.typeIn K (.ref C) == some (.type "type")) = true then PySem.W.subIn K (.type "int") (.ref C) else none) = some false
  rw [if_pos (by rw [ci, ti]; simp), su]
theorem tup_at {K : PySem.W.Frag} {H : Hp} {k : Addr} {its : Array Value} {n : Nat} {od : Option Addr} {sl : Array (Option Value)} {xs : List V} (l : K.lookup k = some ⟨.type "tuple", od, .seq its n, sl⟩) (z : its.size ≤ sizeLine) (r : Vals xs its.toList) : SqT K H k xs := .inr ⟨_, its, n, l, rfl, rfl, z, r⟩
theorem kit_ref {K : PySem.W.Frag} {D B : Addr} {cd : PySem.ClassData} {b : Bool} (ci : PySem.W.clsIn K B = some cd) (ti : PySem.W.typeIn K (.ref B) = some (.type "type")) (su : PySem.W.subIn K (.ref D) (.ref B) = some b) (ne : D ≠ B) : PySem.W.kitOne K (.ref D) (.ref B) = some b := by
  unfold PySem.W.kitOne PySem.W.kitCls
  rw [if_neg (fun h => by have := beq_iff_eq.mp h; cases this; exact ne rfl)]
  show (if ((PySem.W.clsIn K B).isSome && PySem.W.typeIn K (.ref B) == some (.type "type")) = true then PySem.W.subIn K (.ref D) (.ref B) else none) = some b
  rw [if_pos (by rw [ci, ti]; simp), su]
theorem kit_ve {K : PySem.W.Frag} {D : Addr} {b : Bool} (su : PySem.W.subIn K (.ref D) (.type "ValueError") = some b) : PySem.W.kitOne K (.ref D) (.type "ValueError") = some b := by
  unfold PySem.W.kitOne PySem.W.kitCls
  rw [if_neg (fun h => by have := beq_iff_eq.mp h; cases this)]
  show (if PySem.W.kitMeta "ValueError" = true then PySem.W.subIn K (.ref D) (.type "ValueError") else none) = some b
  rw [if_pos (by decide +kernel), su]
theorem exm_ref {K : PySem.W.Frag} {D B : Addr} {cd : PySem.ClassData} {b : Bool} (ex : PySem.W.subIn K (.ref B) (.type "BaseException") = some true) (ci : PySem.W.clsIn K B = some cd) (ti : PySem.W.typeIn K (.ref B) = some (.type "type")) (su : PySem.W.subIn K (.ref D) (.ref B) = some b) : PySem.W.exmOne K (.ref D) (.ref B) = some b := by
  unfold PySem.W.exmOne PySem.W.kitCls
  rw [if_pos (by rw [ex]; rfl)]
  show (if ((PySem.W.clsIn K B).isSome && PySem.W.typeIn K (.ref B) == some (.type "type")) = true then PySem.W.subIn K (.ref D) (.ref B) else none) = some b
  rw [if_pos (by rw [ci, ti]; simp), su]
theorem kit_noT {K : PySem.W.Frag} {C : Addr} {t : String} {cd : PySem.ClassData} (ci : PySem.W.clsIn K C = some cd) (ti : PySem.W.typeIn K (.ref C) = some (.type "type")) (su : PySem.W.subIn K (.type t) (.ref C) = some false) : PySem.W.kitOne K (.type t) (.ref C) = some false := by
  unfold PySem.W.kitOne PySem.W.kitCls
  rw [if_neg (fun h => by have := beq_iff_eq.mp h; cases this)]
  show (if ((PySem.W.clsIn K C).isSome && PySem.W.typeIn K (.ref C) == some (.type "type")) = true then PySem.W.subIn K (.type t) (.ref C) else none) = some false
  rw [if_pos (by rw [ci, ti]; simp), su]
theorem all_mk {l : PySem.W.OpenLaw} {w : World} {K : PySem.W.Frag} {h : Heap} {mg : Str → Option Value} {fa : Addr} (X : K.In h) (G : h.Ns mainGlobals mg) (hfa : mg "law" = some (.ref fa))
    {f_is_choice f_is_meant f_pattern_behind f_part_of f_in_turn f_tables_of f__law_pen f__law_draw f__law_pick f__law_clause f__law_text f__law_change_text f__law_made f__law_call f__law_heard f__law_shown f__law_is_clause f__law_text_due f__law_bent f__law_made_right f__law_joined_right cA P0 cM PM cJ PJ f_Clause f_ClauseD_initD f_Clause_who p_Clause_who f_Clause_sign p_Clause_sign f_Clause_what p_Clause_what f_ClauseD_strD f_ClauseD_eqD f_Clause_read p_Clause_read f_Change f_ChangeD_initD f_Change_clauses p_Change_clauses f_ChangeD_strD f_ChangeD_eqD f_ChangeD_mulD f_Change_read p_Change_read k_SIGNS k_PATTERNS k_P1 k_P2 k_P3 k_P4 k_PARTS k_CLASSES x_BadClause x_TooMany x_NoWay x_ModesError f_BadClauseD_initD f_TooManyD_initD f_law : Addr}
    {od_is_choice : Option Addr} {an_is_choice : Option Addr} {sl_is_choice : Array (Option Value)} {oc_is_choice kV_is_choice dc_is_choice pm_is_choice ct_is_choice : Value} {cd_is_choice : Value} {od_is_meant : Option Addr} {an_is_meant : Option Addr} {sl_is_meant : Array (Option Value)} {oc_is_meant kV_is_meant dc_is_meant pm_is_meant ct_is_meant : Value} {cd_is_meant : Value} {od_pattern_behind : Option Addr} {an_pattern_behind : Option Addr} {sl_pattern_behind : Array (Option Value)} {oc_pattern_behind kV_pattern_behind dc_pattern_behind pm_pattern_behind ct_pattern_behind : Value} {cd_pattern_behind : Value} {od_part_of : Option Addr} {an_part_of : Option Addr} {sl_part_of : Array (Option Value)} {oc_part_of kV_part_of dc_part_of pm_part_of ct_part_of : Value} {cd_part_of : Value} {od_in_turn : Option Addr} {an_in_turn : Option Addr} {sl_in_turn : Array (Option Value)} {oc_in_turn kV_in_turn dc_in_turn pm_in_turn ct_in_turn : Value} {cd_in_turn : Value} {od_tables_of : Option Addr} {an_tables_of : Option Addr} {sl_tables_of : Array (Option Value)} {oc_tables_of kV_tables_of dc_tables_of pm_tables_of ct_tables_of : Value} {cd_tables_of : Value} {od__law_pen : Option Addr} {an__law_pen : Option Addr} {sl__law_pen : Array (Option Value)} {oc__law_pen kV__law_pen dc__law_pen pm__law_pen ct__law_pen : Value} {cd__law_pen : Value} {od__law_draw : Option Addr} {an__law_draw : Option Addr} {sl__law_draw : Array (Option Value)} {oc__law_draw kV__law_draw dc__law_draw pm__law_draw ct__law_draw : Value} {cd__law_draw : Value} {od__law_pick : Option Addr} {an__law_pick : Option Addr} {sl__law_pick : Array (Option Value)} {oc__law_pick kV__law_pick dc__law_pick pm__law_pick ct__law_pick : Value} {cd__law_pick : Value} {od__law_clause : Option Addr} {an__law_clause : Option Addr} {sl__law_clause : Array (Option Value)} {oc__law_clause kV__law_clause dc__law_clause pm__law_clause ct__law_clause : Value} {cd__law_clause : Value} {od__law_text : Option Addr} {an__law_text : Option Addr} {sl__law_text : Array (Option Value)} {oc__law_text kV__law_text dc__law_text pm__law_text ct__law_text : Value} {cd__law_text : Value} {od__law_change_text : Option Addr} {an__law_change_text : Option Addr} {sl__law_change_text : Array (Option Value)} {oc__law_change_text kV__law_change_text dc__law_change_text pm__law_change_text ct__law_change_text : Value} {cd__law_change_text : Value} {od__law_made : Option Addr} {an__law_made : Option Addr} {sl__law_made : Array (Option Value)} {oc__law_made kV__law_made dc__law_made pm__law_made ct__law_made : Value} {cd__law_made : Value} {od__law_call : Option Addr} {an__law_call : Option Addr} {sl__law_call : Array (Option Value)} {oc__law_call kV__law_call dc__law_call pm__law_call ct__law_call : Value} {cd__law_call : Value} {od__law_heard : Option Addr} {an__law_heard : Option Addr} {sl__law_heard : Array (Option Value)} {oc__law_heard kV__law_heard dc__law_heard pm__law_heard ct__law_heard : Value} {cd__law_heard : Value} {od__law_shown : Option Addr} {an__law_shown : Option Addr} {sl__law_shown : Array (Option Value)} {oc__law_shown kV__law_shown dc__law_shown pm__law_shown ct__law_shown : Value} {cd__law_shown : Value} {od__law_is_clause : Option Addr} {an__law_is_clause : Option Addr} {sl__law_is_clause : Array (Option Value)} {oc__law_is_clause kV__law_is_clause dc__law_is_clause pm__law_is_clause ct__law_is_clause : Value} {cd__law_is_clause : Value} {od__law_text_due : Option Addr} {an__law_text_due : Option Addr} {sl__law_text_due : Array (Option Value)} {oc__law_text_due kV__law_text_due dc__law_text_due pm__law_text_due ct__law_text_due : Value} {cd__law_text_due : Value} {od__law_bent : Option Addr} {an__law_bent : Option Addr} {sl__law_bent : Array (Option Value)} {oc__law_bent kV__law_bent dc__law_bent pm__law_bent ct__law_bent : Value} {cd__law_bent : Value} {od__law_made_right : Option Addr} {an__law_made_right : Option Addr} {sl__law_made_right : Array (Option Value)} {oc__law_made_right kV__law_made_right dc__law_made_right pm__law_made_right ct__law_made_right : Value} {od__law_joined_right : Option Addr} {an__law_joined_right : Option Addr} {sl__law_joined_right : Array (Option Value)} {oc__law_joined_right kV__law_joined_right dc__law_joined_right pm__law_joined_right ct__law_joined_right : Value} {od_ClauseD_initD : Option Addr} {an_ClauseD_initD : Option Addr} {sl_ClauseD_initD : Array (Option Value)} {oc_ClauseD_initD kV_ClauseD_initD dc_ClauseD_initD pm_ClauseD_initD ct_ClauseD_initD : Value} {cd_ClauseD_initD : Value} {re_Clause_who : List Value} {od_Clause_who : Option Addr} {an_Clause_who : Option Addr} {sl_Clause_who : Array (Option Value)} {oc_Clause_who kV_Clause_who dc_Clause_who pm_Clause_who ct_Clause_who : Value} {cd_Clause_who : Value} {re_Clause_sign : List Value} {od_Clause_sign : Option Addr} {an_Clause_sign : Option Addr} {sl_Clause_sign : Array (Option Value)} {oc_Clause_sign kV_Clause_sign dc_Clause_sign pm_Clause_sign ct_Clause_sign : Value} {cd_Clause_sign : Value} {re_Clause_what : List Value} {od_Clause_what : Option Addr} {an_Clause_what : Option Addr} {sl_Clause_what : Array (Option Value)} {oc_Clause_what kV_Clause_what dc_Clause_what pm_Clause_what ct_Clause_what : Value} {cd_Clause_what : Value} {od_ClauseD_strD : Option Addr} {an_ClauseD_strD : Option Addr} {sl_ClauseD_strD : Array (Option Value)} {oc_ClauseD_strD kV_ClauseD_strD dc_ClauseD_strD pm_ClauseD_strD ct_ClauseD_strD : Value} {cd_ClauseD_strD : Value} {od_ClauseD_eqD : Option Addr} {an_ClauseD_eqD : Option Addr} {sl_ClauseD_eqD : Array (Option Value)} {oc_ClauseD_eqD kV_ClauseD_eqD dc_ClauseD_eqD pm_ClauseD_eqD ct_ClauseD_eqD : Value} {cd_ClauseD_eqD : Value} {re_Clause_read : List Value} {od_Clause_read : Option Addr} {an_Clause_read : Option Addr} {sl_Clause_read : Array (Option Value)} {oc_Clause_read kV_Clause_read dc_Clause_read pm_Clause_read ct_Clause_read : Value} {cd_Clause_read : Value} {cd_Clause : PySem.ClassData} {od_ChangeD_initD : Option Addr} {an_ChangeD_initD : Option Addr} {sl_ChangeD_initD : Array (Option Value)} {oc_ChangeD_initD kV_ChangeD_initD dc_ChangeD_initD pm_ChangeD_initD ct_ChangeD_initD : Value} {cd_ChangeD_initD : Value} {re_Change_clauses : List Value} {od_Change_clauses : Option Addr} {an_Change_clauses : Option Addr} {sl_Change_clauses : Array (Option Value)} {oc_Change_clauses kV_Change_clauses dc_Change_clauses pm_Change_clauses ct_Change_clauses : Value} {cd_Change_clauses : Value} {od_ChangeD_strD : Option Addr} {an_ChangeD_strD : Option Addr} {sl_ChangeD_strD : Array (Option Value)} {oc_ChangeD_strD kV_ChangeD_strD dc_ChangeD_strD pm_ChangeD_strD ct_ChangeD_strD : Value} {cd_ChangeD_strD : Value} {od_ChangeD_eqD : Option Addr} {an_ChangeD_eqD : Option Addr} {sl_ChangeD_eqD : Array (Option Value)} {oc_ChangeD_eqD kV_ChangeD_eqD dc_ChangeD_eqD pm_ChangeD_eqD ct_ChangeD_eqD : Value} {cd_ChangeD_eqD : Value} {od_ChangeD_mulD : Option Addr} {an_ChangeD_mulD : Option Addr} {sl_ChangeD_mulD : Array (Option Value)} {oc_ChangeD_mulD kV_ChangeD_mulD dc_ChangeD_mulD pm_ChangeD_mulD ct_ChangeD_mulD : Value} {cd_ChangeD_mulD : Value} {tk_Change_MOST : Tok} {re_Change_read : List Value} {od_Change_read : Option Addr} {an_Change_read : Option Addr} {sl_Change_read : Array (Option Value)} {oc_Change_read kV_Change_read dc_Change_read pm_Change_read ct_Change_read : Value} {cd_Change_read : Value} {cd_Change : PySem.ClassData} {its_SIGNS : Array Value} {tn_SIGNS : Nat} {tod_SIGNS : Option Addr} {tsl_SIGNS : Array (Option Value)} {its_PATTERNS : Array Value} {tn_PATTERNS : Nat} {tod_PATTERNS : Option Addr} {tsl_PATTERNS : Array (Option Value)} {its_PARTS : Array Value} {tn_PARTS : Nat} {tod_PARTS : Option Addr} {tsl_PARTS : Array (Option Value)} {its_P1 : Array Value} {tn_P1 : Nat} {tod_P1 : Option Addr} {tsl_P1 : Array (Option Value)} {its_P2 : Array Value} {tn_P2 : Nat} {tod_P2 : Option Addr} {tsl_P2 : Array (Option Value)} {its_P3 : Array Value} {tn_P3 : Nat} {tod_P3 : Option Addr} {tsl_P3 : Array (Option Value)} {its_P4 : Array Value} {tn_P4 : Nat} {tod_P4 : Option Addr} {tsl_P4 : Array (Option Value)} {es_CL : Array DictEntry} {n_CL : Nat} {tku tkg tko : Tok} {cdx_BadClause : PySem.ClassData} {cdx_TooMany : PySem.ClassData} {cdx_NoWay : PySem.ClassData} {cdx_ModesError : PySem.ClassData} {nmBadClause qBadClause : Str} {NBadClause : Addr} {bsBadClause bmBadClause : List Value} {snBadClause : List Str} {subBadClause : List Value} {abBadClause : Bool} {colBadClause : Option Bool} {ddBadClause : Option Addr} {m0BadClause m1BadClause m2BadClause m3BadClause m5BadClause : Option Value} {od_BadClauseD_initD : Option Addr} {an_BadClauseD_initD : Option Addr} {sl_BadClauseD_initD : Array (Option Value)} {oc_BadClauseD_initD kV_BadClauseD_initD dc_BadClauseD_initD pm_BadClauseD_initD ct_BadClauseD_initD : Value} {cd_BadClauseD_initD : Value} {nmTooMany qTooMany : Str} {NTooMany : Addr} {bsTooMany bmTooMany : List Value} {snTooMany : List Str} {subTooMany : List Value} {abTooMany : Bool} {colTooMany : Option Bool} {ddTooMany : Option Addr} {m0TooMany m1TooMany m2TooMany m3TooMany m5TooMany : Option Value} {od_TooManyD_initD : Option Addr} {an_TooManyD_initD : Option Addr} {sl_TooManyD_initD : Array (Option Value)} {oc_TooManyD_initD kV_TooManyD_initD dc_TooManyD_initD pm_TooManyD_initD ct_TooManyD_initD : Value} {cd_TooManyD_initD : Value} {od_law : Option Addr} {an_law : Option Addr} {sl_law : Array (Option Value)} {oc_law kV_law dc_law pm_law ct_law : Value} {od_cA : Option Addr} {vs_cA : Array Value} {sl_cA : Array (Option Value)} {od_cM : Option Addr} {vs_cM : Array Value} {sl_cM : Array (Option Value)} {od_cJ : Option Addr} {vs_cJ : Array Value} {sl_cJ : Array (Option Value)}
    (z_isinstance : PySem.W.nsIn K mainGlobals "isinstance" = some none)
    (z_int : PySem.W.nsIn K mainGlobals "int" = some none)
    (z_bool : PySem.W.nsIn K mainGlobals "bool" = some none)
    (z_str : PySem.W.nsIn K mainGlobals "str" = some none)
    (z_sum : PySem.W.nsIn K mainGlobals "sum" = some none)
    (z_tuple : PySem.W.nsIn K mainGlobals "tuple" = some none)
    (z_list : PySem.W.nsIn K mainGlobals "list" = some none)
    (z_len : PySem.W.nsIn K mainGlobals "len" = some none)
    (z_abs : PySem.W.nsIn K mainGlobals "abs" = some none)
    (z_range : PySem.W.nsIn K mainGlobals "range" = some none)
    (z_enumerate : PySem.W.nsIn K mainGlobals "enumerate" = some none)
    (z_repr : PySem.W.nsIn K mainGlobals "repr" = some none)
    (z_zip : PySem.W.nsIn K mainGlobals "zip" = some none)
    (a_is_choice : PySem.W.nsIn K mainGlobals "is_choice" = some (some (.ref f_is_choice)))
    (l_is_choice : K.lookup f_is_choice = some ⟨oc_is_choice, od_is_choice, .func (PySem.W.fnOf "is_choice" "is_choice" (defArgs s_is_choice) (defBody s_is_choice) (defScope s_is_choice) .none kV_is_choice dc_is_choice pm_is_choice an_is_choice cd_is_choice ct_is_choice), sl_is_choice⟩)
    (co_is_choice : PySem.W.codeIn K cd_is_choice "is_choice" = true)
    (kp_is_choice : PySem.W.keepIn K (.ref f_is_choice) = true)
    (a_is_meant : PySem.W.nsIn K mainGlobals "is_meant" = some (some (.ref f_is_meant)))
    (l_is_meant : K.lookup f_is_meant = some ⟨oc_is_meant, od_is_meant, .func (PySem.W.fnOf "is_meant" "is_meant" (defArgs s_is_meant) (defBody s_is_meant) (defScope s_is_meant) .none kV_is_meant dc_is_meant pm_is_meant an_is_meant cd_is_meant ct_is_meant), sl_is_meant⟩)
    (co_is_meant : PySem.W.codeIn K cd_is_meant "is_meant" = true)
    (kp_is_meant : PySem.W.keepIn K (.ref f_is_meant) = true)
    (a_pattern_behind : PySem.W.nsIn K mainGlobals "pattern_behind" = some (some (.ref f_pattern_behind)))
    (l_pattern_behind : K.lookup f_pattern_behind = some ⟨oc_pattern_behind, od_pattern_behind, .func (PySem.W.fnOf "pattern_behind" "pattern_behind" (defArgs s_pattern_behind) (defBody s_pattern_behind) (defScope s_pattern_behind) .none kV_pattern_behind dc_pattern_behind pm_pattern_behind an_pattern_behind cd_pattern_behind ct_pattern_behind), sl_pattern_behind⟩)
    (co_pattern_behind : PySem.W.codeIn K cd_pattern_behind "pattern_behind" = true)
    (kp_pattern_behind : PySem.W.keepIn K (.ref f_pattern_behind) = true)
    (a_part_of : PySem.W.nsIn K mainGlobals "part_of" = some (some (.ref f_part_of)))
    (l_part_of : K.lookup f_part_of = some ⟨oc_part_of, od_part_of, .func (PySem.W.fnOf "part_of" "part_of" (defArgs s_part_of) (defBody s_part_of) (defScope s_part_of) .none kV_part_of dc_part_of pm_part_of an_part_of cd_part_of ct_part_of), sl_part_of⟩)
    (co_part_of : PySem.W.codeIn K cd_part_of "part_of" = true)
    (kp_part_of : PySem.W.keepIn K (.ref f_part_of) = true)
    (a_in_turn : PySem.W.nsIn K mainGlobals "in_turn" = some (some (.ref f_in_turn)))
    (l_in_turn : K.lookup f_in_turn = some ⟨oc_in_turn, od_in_turn, .func (PySem.W.fnOf "in_turn" "in_turn" (defArgs s_in_turn) (defBody s_in_turn) (defScope s_in_turn) .none kV_in_turn dc_in_turn pm_in_turn an_in_turn cd_in_turn ct_in_turn), sl_in_turn⟩)
    (co_in_turn : PySem.W.codeIn K cd_in_turn "in_turn" = true)
    (kp_in_turn : PySem.W.keepIn K (.ref f_in_turn) = true)
    (a_tables_of : PySem.W.nsIn K mainGlobals "tables_of" = some (some (.ref f_tables_of)))
    (l_tables_of : K.lookup f_tables_of = some ⟨oc_tables_of, od_tables_of, .func (PySem.W.fnOf "tables_of" "tables_of" (defArgs s_tables_of) (defBody s_tables_of) (defScope s_tables_of) .none kV_tables_of dc_tables_of pm_tables_of an_tables_of cd_tables_of ct_tables_of), sl_tables_of⟩)
    (co_tables_of : PySem.W.codeIn K cd_tables_of "tables_of" = true)
    (kp_tables_of : PySem.W.keepIn K (.ref f_tables_of) = true)
    (a__law_pen : PySem.W.nsIn K mainGlobals "_law_pen" = some (some (.ref f__law_pen)))
    (l__law_pen : K.lookup f__law_pen = some ⟨oc__law_pen, od__law_pen, .func (PySem.W.fnOf "_law_pen" "_law_pen" (defArgs s__law_pen) (defBody s__law_pen) (defScope s__law_pen) .none kV__law_pen dc__law_pen pm__law_pen an__law_pen cd__law_pen ct__law_pen), sl__law_pen⟩)
    (co__law_pen : PySem.W.codeIn K cd__law_pen "_law_pen" = true)
    (kp__law_pen : PySem.W.keepIn K (.ref f__law_pen) = true)
    (a__law_draw : PySem.W.nsIn K mainGlobals "_law_draw" = some (some (.ref f__law_draw)))
    (l__law_draw : K.lookup f__law_draw = some ⟨oc__law_draw, od__law_draw, .func (PySem.W.fnOf "_law_draw" "_law_draw" (defArgs s__law_draw) (defBody s__law_draw) (defScope s__law_draw) .none kV__law_draw dc__law_draw pm__law_draw an__law_draw cd__law_draw ct__law_draw), sl__law_draw⟩)
    (co__law_draw : PySem.W.codeIn K cd__law_draw "_law_draw" = true)
    (kp__law_draw : PySem.W.keepIn K (.ref f__law_draw) = true)
    (a__law_pick : PySem.W.nsIn K mainGlobals "_law_pick" = some (some (.ref f__law_pick)))
    (l__law_pick : K.lookup f__law_pick = some ⟨oc__law_pick, od__law_pick, .func (PySem.W.fnOf "_law_pick" "_law_pick" (defArgs s__law_pick) (defBody s__law_pick) (defScope s__law_pick) .none kV__law_pick dc__law_pick pm__law_pick an__law_pick cd__law_pick ct__law_pick), sl__law_pick⟩)
    (co__law_pick : PySem.W.codeIn K cd__law_pick "_law_pick" = true)
    (kp__law_pick : PySem.W.keepIn K (.ref f__law_pick) = true)
    (a__law_clause : PySem.W.nsIn K mainGlobals "_law_clause" = some (some (.ref f__law_clause)))
    (l__law_clause : K.lookup f__law_clause = some ⟨oc__law_clause, od__law_clause, .func (PySem.W.fnOf "_law_clause" "_law_clause" (defArgs s__law_clause) (defBody s__law_clause) (defScope s__law_clause) .none kV__law_clause dc__law_clause pm__law_clause an__law_clause cd__law_clause ct__law_clause), sl__law_clause⟩)
    (co__law_clause : PySem.W.codeIn K cd__law_clause "_law_clause" = true)
    (kp__law_clause : PySem.W.keepIn K (.ref f__law_clause) = true)
    (a__law_text : PySem.W.nsIn K mainGlobals "_law_text" = some (some (.ref f__law_text)))
    (l__law_text : K.lookup f__law_text = some ⟨oc__law_text, od__law_text, .func (PySem.W.fnOf "_law_text" "_law_text" (defArgs s__law_text) (defBody s__law_text) (defScope s__law_text) .none kV__law_text dc__law_text pm__law_text an__law_text cd__law_text ct__law_text), sl__law_text⟩)
    (co__law_text : PySem.W.codeIn K cd__law_text "_law_text" = true)
    (kp__law_text : PySem.W.keepIn K (.ref f__law_text) = true)
    (a__law_change_text : PySem.W.nsIn K mainGlobals "_law_change_text" = some (some (.ref f__law_change_text)))
    (l__law_change_text : K.lookup f__law_change_text = some ⟨oc__law_change_text, od__law_change_text, .func (PySem.W.fnOf "_law_change_text" "_law_change_text" (defArgs s__law_change_text) (defBody s__law_change_text) (defScope s__law_change_text) .none kV__law_change_text dc__law_change_text pm__law_change_text an__law_change_text cd__law_change_text ct__law_change_text), sl__law_change_text⟩)
    (co__law_change_text : PySem.W.codeIn K cd__law_change_text "_law_change_text" = true)
    (kp__law_change_text : PySem.W.keepIn K (.ref f__law_change_text) = true)
    (a__law_made : PySem.W.nsIn K mainGlobals "_law_made" = some (some (.ref f__law_made)))
    (l__law_made : K.lookup f__law_made = some ⟨oc__law_made, od__law_made, .func (PySem.W.fnOf "_law_made" "_law_made" (defArgs s__law_made) (defBody s__law_made) (defScope s__law_made) .none kV__law_made dc__law_made pm__law_made an__law_made cd__law_made ct__law_made), sl__law_made⟩)
    (co__law_made : PySem.W.codeIn K cd__law_made "_law_made" = true)
    (kp__law_made : PySem.W.keepIn K (.ref f__law_made) = true)
    (a__law_call : PySem.W.nsIn K mainGlobals "_law_call" = some (some (.ref f__law_call)))
    (l__law_call : K.lookup f__law_call = some ⟨oc__law_call, od__law_call, .func (PySem.W.fnOf "_law_call" "_law_call" (defArgs s__law_call) (defBody s__law_call) (defScope s__law_call) .none kV__law_call dc__law_call pm__law_call an__law_call cd__law_call ct__law_call), sl__law_call⟩)
    (co__law_call : PySem.W.codeIn K cd__law_call "_law_call" = true)
    (kp__law_call : PySem.W.keepIn K (.ref f__law_call) = true)
    (a__law_heard : PySem.W.nsIn K mainGlobals "_law_heard" = some (some (.ref f__law_heard)))
    (l__law_heard : K.lookup f__law_heard = some ⟨oc__law_heard, od__law_heard, .func (PySem.W.fnOf "_law_heard" "_law_heard" (defArgs s__law_heard) (defBody s__law_heard) (defScope s__law_heard) .none kV__law_heard dc__law_heard pm__law_heard an__law_heard cd__law_heard ct__law_heard), sl__law_heard⟩)
    (co__law_heard : PySem.W.codeIn K cd__law_heard "_law_heard" = true)
    (kp__law_heard : PySem.W.keepIn K (.ref f__law_heard) = true)
    (a__law_shown : PySem.W.nsIn K mainGlobals "_law_shown" = some (some (.ref f__law_shown)))
    (l__law_shown : K.lookup f__law_shown = some ⟨oc__law_shown, od__law_shown, .func (PySem.W.fnOf "_law_shown" "_law_shown" (defArgs s__law_shown) (defBody s__law_shown) (defScope s__law_shown) .none kV__law_shown dc__law_shown pm__law_shown an__law_shown cd__law_shown ct__law_shown), sl__law_shown⟩)
    (co__law_shown : PySem.W.codeIn K cd__law_shown "_law_shown" = true)
    (kp__law_shown : PySem.W.keepIn K (.ref f__law_shown) = true)
    (a__law_is_clause : PySem.W.nsIn K mainGlobals "_law_is_clause" = some (some (.ref f__law_is_clause)))
    (l__law_is_clause : K.lookup f__law_is_clause = some ⟨oc__law_is_clause, od__law_is_clause, .func (PySem.W.fnOf "_law_is_clause" "_law_is_clause" (defArgs s__law_is_clause) (defBody s__law_is_clause) (defScope s__law_is_clause) .none kV__law_is_clause dc__law_is_clause pm__law_is_clause an__law_is_clause cd__law_is_clause ct__law_is_clause), sl__law_is_clause⟩)
    (co__law_is_clause : PySem.W.codeIn K cd__law_is_clause "_law_is_clause" = true)
    (kp__law_is_clause : PySem.W.keepIn K (.ref f__law_is_clause) = true)
    (a__law_text_due : PySem.W.nsIn K mainGlobals "_law_text_due" = some (some (.ref f__law_text_due)))
    (l__law_text_due : K.lookup f__law_text_due = some ⟨oc__law_text_due, od__law_text_due, .func (PySem.W.fnOf "_law_text_due" "_law_text_due" (defArgs s__law_text_due) (defBody s__law_text_due) (defScope s__law_text_due) .none kV__law_text_due dc__law_text_due pm__law_text_due an__law_text_due cd__law_text_due ct__law_text_due), sl__law_text_due⟩)
    (co__law_text_due : PySem.W.codeIn K cd__law_text_due "_law_text_due" = true)
    (kp__law_text_due : PySem.W.keepIn K (.ref f__law_text_due) = true)
    (a__law_bent : PySem.W.nsIn K mainGlobals "_law_bent" = some (some (.ref f__law_bent)))
    (l__law_bent : K.lookup f__law_bent = some ⟨oc__law_bent, od__law_bent, .func (PySem.W.fnOf "_law_bent" "_law_bent" (defArgs s__law_bent) (defBody s__law_bent) (defScope s__law_bent) .none kV__law_bent dc__law_bent pm__law_bent an__law_bent cd__law_bent ct__law_bent), sl__law_bent⟩)
    (co__law_bent : PySem.W.codeIn K cd__law_bent "_law_bent" = true)
    (kp__law_bent : PySem.W.keepIn K (.ref f__law_bent) = true)
    (a__law_made_right : PySem.W.nsIn K mainGlobals "_law_made_right" = some (some (.ref f__law_made_right)))
    (l__law_made_right : K.lookup f__law_made_right = some ⟨oc__law_made_right, od__law_made_right, .func (PySem.W.fnOf "_law_made_right" "_law_made_right" (defArgs s__law_made_right) (defBody s__law_made_right) (defScope s__law_made_right) .none kV__law_made_right dc__law_made_right pm__law_made_right an__law_made_right (.ref cM) ct__law_made_right), sl__law_made_right⟩)
    (co__law_made_right : PySem.W.codeIn K (.ref cM) "_law_made_right" = true)
    (kp__law_made_right : PySem.W.keepIn K (.ref f__law_made_right) = true)
    (a__law_joined_right : PySem.W.nsIn K mainGlobals "_law_joined_right" = some (some (.ref f__law_joined_right)))
    (l__law_joined_right : K.lookup f__law_joined_right = some ⟨oc__law_joined_right, od__law_joined_right, .func (PySem.W.fnOf "_law_joined_right" "_law_joined_right" (defArgs s__law_joined_right) (defBody s__law_joined_right) (defScope s__law_joined_right) .none kV__law_joined_right dc__law_joined_right pm__law_joined_right an__law_joined_right (.ref cJ) ct__law_joined_right), sl__law_joined_right⟩)
    (co__law_joined_right : PySem.W.codeIn K (.ref cJ) "_law_joined_right" = true)
    (kp__law_joined_right : PySem.W.keepIn K (.ref f__law_joined_right) = true)
    (a_Clause : PySem.W.nsIn K mainGlobals "Clause" = some (some (.ref f_Clause)))
    (pg_Clause : PySem.W.plainGet K f_Clause Str.empty = true)
    (hd_Clause : PySem.W.hasDictIn K f_Clause = true)
    (po_Clause : PySem.W.plainOver K f_Clause = true)
    (sa_Clause : PySem.W.findIn K (.ref f_Clause) "__setattr__" = some (some (.builtin "object.__setattr__")))
    (n_who_Clause : PySem.W.findIn K (.ref f_Clause) "_who" = some none)
    (n_sign_Clause : PySem.W.findIn K (.ref f_Clause) "_sign" = some none)
    (n_what_Clause : PySem.W.findIn K (.ref f_Clause) "_what" = some none)
    (n_tables_Clause : PySem.W.findIn K (.ref f_Clause) "_tables" = some none)
    (at_ClauseD_initD : PySem.W.findIn K (.ref f_Clause) "__init__" = some (some (.ref f_ClauseD_initD)))
    (fi_ClauseD_initD : PySem.W.isFn K (.ref f_ClauseD_initD) = true)
    (l_ClauseD_initD : K.lookup f_ClauseD_initD = some ⟨oc_ClauseD_initD, od_ClauseD_initD, .func (PySem.W.fnOf "__init__" "Clause.__init__" (defArgs s_ClauseD_initD) (defBody s_ClauseD_initD) (defScope s_ClauseD_initD) .none kV_ClauseD_initD dc_ClauseD_initD pm_ClauseD_initD an_ClauseD_initD cd_ClauseD_initD ct_ClauseD_initD), sl_ClauseD_initD⟩)
    (co_ClauseD_initD : PySem.W.codeIn K cd_ClauseD_initD "Clause.__init__" = true)
    (kp_ClauseD_initD : PySem.W.keepIn K (.ref f_ClauseD_initD) = true)
    (mk_Clause : PySem.W.makesIn K f_Clause = true)
    (kc_Clause : PySem.W.keepIn K (.ref f_Clause) = true)
    (at_Clause_who : PySem.W.findIn K (.ref f_Clause) "who" = some (some (.ref p_Clause_who)))
    (ge_Clause_who : PySem.W.specialIn K (.ref p_Clause_who) "__get__" = some (some (.builtin "property.__get__")))
    (ta_Clause_who : PySem.W.takesIn K (.ref p_Clause_who) = some true)
    (rc_Clause_who : PySem.W.recIn K p_Clause_who "property" = some (.ref f_Clause_who :: re_Clause_who))
    (l_Clause_who : K.lookup f_Clause_who = some ⟨oc_Clause_who, od_Clause_who, .func (PySem.W.fnOf "who" "Clause.who" (defArgs s_Clause_who) (defBody s_Clause_who) (defScope s_Clause_who) .none kV_Clause_who dc_Clause_who pm_Clause_who an_Clause_who cd_Clause_who ct_Clause_who), sl_Clause_who⟩)
    (co_Clause_who : PySem.W.codeIn K cd_Clause_who "Clause.who" = true)
    (kp_Clause_who : PySem.W.keepIn K (.ref f_Clause_who) = true)
    (at_Clause_sign : PySem.W.findIn K (.ref f_Clause) "sign" = some (some (.ref p_Clause_sign)))
    (ge_Clause_sign : PySem.W.specialIn K (.ref p_Clause_sign) "__get__" = some (some (.builtin "property.__get__")))
    (ta_Clause_sign : PySem.W.takesIn K (.ref p_Clause_sign) = some true)
    (rc_Clause_sign : PySem.W.recIn K p_Clause_sign "property" = some (.ref f_Clause_sign :: re_Clause_sign))
    (l_Clause_sign : K.lookup f_Clause_sign = some ⟨oc_Clause_sign, od_Clause_sign, .func (PySem.W.fnOf "sign" "Clause.sign" (defArgs s_Clause_sign) (defBody s_Clause_sign) (defScope s_Clause_sign) .none kV_Clause_sign dc_Clause_sign pm_Clause_sign an_Clause_sign cd_Clause_sign ct_Clause_sign), sl_Clause_sign⟩)
    (co_Clause_sign : PySem.W.codeIn K cd_Clause_sign "Clause.sign" = true)
    (kp_Clause_sign : PySem.W.keepIn K (.ref f_Clause_sign) = true)
    (at_Clause_what : PySem.W.findIn K (.ref f_Clause) "what" = some (some (.ref p_Clause_what)))
    (ge_Clause_what : PySem.W.specialIn K (.ref p_Clause_what) "__get__" = some (some (.builtin "property.__get__")))
    (ta_Clause_what : PySem.W.takesIn K (.ref p_Clause_what) = some true)
    (rc_Clause_what : PySem.W.recIn K p_Clause_what "property" = some (.ref f_Clause_what :: re_Clause_what))
    (l_Clause_what : K.lookup f_Clause_what = some ⟨oc_Clause_what, od_Clause_what, .func (PySem.W.fnOf "what" "Clause.what" (defArgs s_Clause_what) (defBody s_Clause_what) (defScope s_Clause_what) .none kV_Clause_what dc_Clause_what pm_Clause_what an_Clause_what cd_Clause_what ct_Clause_what), sl_Clause_what⟩)
    (co_Clause_what : PySem.W.codeIn K cd_Clause_what "Clause.what" = true)
    (kp_Clause_what : PySem.W.keepIn K (.ref f_Clause_what) = true)
    (at_ClauseD_strD : PySem.W.findIn K (.ref f_Clause) "__str__" = some (some (.ref f_ClauseD_strD)))
    (fi_ClauseD_strD : PySem.W.isFn K (.ref f_ClauseD_strD) = true)
    (l_ClauseD_strD : K.lookup f_ClauseD_strD = some ⟨oc_ClauseD_strD, od_ClauseD_strD, .func (PySem.W.fnOf "__str__" "Clause.__str__" (defArgs s_ClauseD_strD) (defBody s_ClauseD_strD) (defScope s_ClauseD_strD) .none kV_ClauseD_strD dc_ClauseD_strD pm_ClauseD_strD an_ClauseD_strD cd_ClauseD_strD ct_ClauseD_strD), sl_ClauseD_strD⟩)
    (co_ClauseD_strD : PySem.W.codeIn K cd_ClauseD_strD "Clause.__str__" = true)
    (kp_ClauseD_strD : PySem.W.keepIn K (.ref f_ClauseD_strD) = true)
    (at_ClauseD_eqD : PySem.W.findIn K (.ref f_Clause) "__eq__" = some (some (.ref f_ClauseD_eqD)))
    (fi_ClauseD_eqD : PySem.W.isFn K (.ref f_ClauseD_eqD) = true)
    (l_ClauseD_eqD : K.lookup f_ClauseD_eqD = some ⟨oc_ClauseD_eqD, od_ClauseD_eqD, .func (PySem.W.fnOf "__eq__" "Clause.__eq__" (defArgs s_ClauseD_eqD) (defBody s_ClauseD_eqD) (defScope s_ClauseD_eqD) .none kV_ClauseD_eqD dc_ClauseD_eqD pm_ClauseD_eqD an_ClauseD_eqD cd_ClauseD_eqD ct_ClauseD_eqD), sl_ClauseD_eqD⟩)
    (co_ClauseD_eqD : PySem.W.codeIn K cd_ClauseD_eqD "Clause.__eq__" = true)
    (kp_ClauseD_eqD : PySem.W.keepIn K (.ref f_ClauseD_eqD) = true)
    (at_Clause_read : PySem.W.findCls K (.ref f_Clause) (.type "type") "read" = some (.get (.builtin "classmethod.__get__") (.ref p_Clause_read) .none (.ref f_Clause)))
    (rc_Clause_read : PySem.W.recIn K p_Clause_read "classmethod" = some (.ref f_Clause_read :: re_Clause_read))
    (fm_Clause_read : PySem.W.fnIn K f_Clause_read = true)
    (l_Clause_read : K.lookup f_Clause_read = some ⟨oc_Clause_read, od_Clause_read, .func (PySem.W.fnOf "read" "Clause.read" (defArgs s_Clause_read) (defBody s_Clause_read) (defScope s_Clause_read) .none kV_Clause_read dc_Clause_read pm_Clause_read an_Clause_read cd_Clause_read ct_Clause_read), sl_Clause_read⟩)
    (co_Clause_read : PySem.W.codeIn K cd_Clause_read "Clause.read" = true)
    (kp_Clause_read : PySem.W.keepIn K (.ref f_Clause_read) = true)
    (rd_Clause : PySem.W.readsIn K f_Clause (.type "type") = true)
    (ga_Clause : PySem.W.specialIn K (.ref f_Clause) "__getattribute__" = some (some (.builtin "type.__getattribute__")))
    (ia_Clause : PySem.W.findIn K (.ref f_Clause) "__class__" = some (some (.builtin "object.__class__")))
    (im_Clause : PySem.W.mroIn K f_Clause (.type "object") = some true)
    (ci_Clause : PySem.W.clsIn K f_Clause = some cd_Clause)
    (ti_Clause : PySem.W.typeIn K (.ref f_Clause) = some (.type "type"))
    (sn_Clause_str : PySem.W.subIn K (.type "str") (.ref f_Clause) = some false)
    (nf_Clause_str : PySem.W.notFirst K f_Clause (.type "str") = true)
    (sn_Clause_tuple : PySem.W.subIn K (.type "tuple") (.ref f_Clause) = some false)
    (nf_Clause_tuple : PySem.W.notFirst K f_Clause (.type "tuple") = true)
    (sn_Clause_int : PySem.W.subIn K (.type "int") (.ref f_Clause) = some false)
    (nf_Clause_int : PySem.W.notFirst K f_Clause (.type "int") = true)
    (sn_Clause_NoneType : PySem.W.subIn K (.type "NoneType") (.ref f_Clause) = some false)
    (nf_Clause_NoneType : PySem.W.notFirst K f_Clause (.type "NoneType") = true)
    (sn_Clause_list : PySem.W.subIn K (.type "list") (.ref f_Clause) = some false)
    (nf_Clause_list : PySem.W.notFirst K f_Clause (.type "list") = true)
    (sn_Clause_dict : PySem.W.subIn K (.type "dict") (.ref f_Clause) = some false)
    (nf_Clause_dict : PySem.W.notFirst K f_Clause (.type "dict") = true)
    (sn_Clause_bool : PySem.W.subIn K (.type "bool") (.ref f_Clause) = some false)
    (nf_Clause_bool : PySem.W.notFirst K f_Clause (.type "bool") = true)
    (en_Clause : PySem.W.findIn K (.ref f_Clause) "__ne__" = some (some (.builtin "object.__ne__")))
    (a_Change : PySem.W.nsIn K mainGlobals "Change" = some (some (.ref f_Change)))
    (pg_Change : PySem.W.plainGet K f_Change Str.empty = true)
    (hd_Change : PySem.W.hasDictIn K f_Change = true)
    (po_Change : PySem.W.plainOver K f_Change = true)
    (sa_Change : PySem.W.findIn K (.ref f_Change) "__setattr__" = some (some (.builtin "object.__setattr__")))
    (n_clauses_Change : PySem.W.findIn K (.ref f_Change) "_clauses" = some none)
    (n_tables_Change : PySem.W.findIn K (.ref f_Change) "_tables" = some none)
    (at_ChangeD_initD : PySem.W.findIn K (.ref f_Change) "__init__" = some (some (.ref f_ChangeD_initD)))
    (fi_ChangeD_initD : PySem.W.isFn K (.ref f_ChangeD_initD) = true)
    (l_ChangeD_initD : K.lookup f_ChangeD_initD = some ⟨oc_ChangeD_initD, od_ChangeD_initD, .func (PySem.W.fnOf "__init__" "Change.__init__" (defArgs s_ChangeD_initD) (defBody s_ChangeD_initD) (defScope s_ChangeD_initD) .none kV_ChangeD_initD dc_ChangeD_initD pm_ChangeD_initD an_ChangeD_initD cd_ChangeD_initD ct_ChangeD_initD), sl_ChangeD_initD⟩)
    (co_ChangeD_initD : PySem.W.codeIn K cd_ChangeD_initD "Change.__init__" = true)
    (kp_ChangeD_initD : PySem.W.keepIn K (.ref f_ChangeD_initD) = true)
    (mk_Change : PySem.W.makesIn K f_Change = true)
    (kc_Change : PySem.W.keepIn K (.ref f_Change) = true)
    (at_Change_clauses : PySem.W.findIn K (.ref f_Change) "clauses" = some (some (.ref p_Change_clauses)))
    (ge_Change_clauses : PySem.W.specialIn K (.ref p_Change_clauses) "__get__" = some (some (.builtin "property.__get__")))
    (ta_Change_clauses : PySem.W.takesIn K (.ref p_Change_clauses) = some true)
    (rc_Change_clauses : PySem.W.recIn K p_Change_clauses "property" = some (.ref f_Change_clauses :: re_Change_clauses))
    (l_Change_clauses : K.lookup f_Change_clauses = some ⟨oc_Change_clauses, od_Change_clauses, .func (PySem.W.fnOf "clauses" "Change.clauses" (defArgs s_Change_clauses) (defBody s_Change_clauses) (defScope s_Change_clauses) .none kV_Change_clauses dc_Change_clauses pm_Change_clauses an_Change_clauses cd_Change_clauses ct_Change_clauses), sl_Change_clauses⟩)
    (co_Change_clauses : PySem.W.codeIn K cd_Change_clauses "Change.clauses" = true)
    (kp_Change_clauses : PySem.W.keepIn K (.ref f_Change_clauses) = true)
    (at_ChangeD_strD : PySem.W.findIn K (.ref f_Change) "__str__" = some (some (.ref f_ChangeD_strD)))
    (fi_ChangeD_strD : PySem.W.isFn K (.ref f_ChangeD_strD) = true)
    (l_ChangeD_strD : K.lookup f_ChangeD_strD = some ⟨oc_ChangeD_strD, od_ChangeD_strD, .func (PySem.W.fnOf "__str__" "Change.__str__" (defArgs s_ChangeD_strD) (defBody s_ChangeD_strD) (defScope s_ChangeD_strD) .none kV_ChangeD_strD dc_ChangeD_strD pm_ChangeD_strD an_ChangeD_strD cd_ChangeD_strD ct_ChangeD_strD), sl_ChangeD_strD⟩)
    (co_ChangeD_strD : PySem.W.codeIn K cd_ChangeD_strD "Change.__str__" = true)
    (kp_ChangeD_strD : PySem.W.keepIn K (.ref f_ChangeD_strD) = true)
    (at_ChangeD_eqD : PySem.W.findIn K (.ref f_Change) "__eq__" = some (some (.ref f_ChangeD_eqD)))
    (fi_ChangeD_eqD : PySem.W.isFn K (.ref f_ChangeD_eqD) = true)
    (l_ChangeD_eqD : K.lookup f_ChangeD_eqD = some ⟨oc_ChangeD_eqD, od_ChangeD_eqD, .func (PySem.W.fnOf "__eq__" "Change.__eq__" (defArgs s_ChangeD_eqD) (defBody s_ChangeD_eqD) (defScope s_ChangeD_eqD) .none kV_ChangeD_eqD dc_ChangeD_eqD pm_ChangeD_eqD an_ChangeD_eqD cd_ChangeD_eqD ct_ChangeD_eqD), sl_ChangeD_eqD⟩)
    (co_ChangeD_eqD : PySem.W.codeIn K cd_ChangeD_eqD "Change.__eq__" = true)
    (kp_ChangeD_eqD : PySem.W.keepIn K (.ref f_ChangeD_eqD) = true)
    (at_ChangeD_mulD : PySem.W.findIn K (.ref f_Change) "__mul__" = some (some (.ref f_ChangeD_mulD)))
    (fi_ChangeD_mulD : PySem.W.isFn K (.ref f_ChangeD_mulD) = true)
    (l_ChangeD_mulD : K.lookup f_ChangeD_mulD = some ⟨oc_ChangeD_mulD, od_ChangeD_mulD, .func (PySem.W.fnOf "__mul__" "Change.__mul__" (defArgs s_ChangeD_mulD) (defBody s_ChangeD_mulD) (defScope s_ChangeD_mulD) .none kV_ChangeD_mulD dc_ChangeD_mulD pm_ChangeD_mulD an_ChangeD_mulD cd_ChangeD_mulD ct_ChangeD_mulD), sl_ChangeD_mulD⟩)
    (co_ChangeD_mulD : PySem.W.codeIn K cd_ChangeD_mulD "Change.__mul__" = true)
    (kp_ChangeD_mulD : PySem.W.keepIn K (.ref f_ChangeD_mulD) = true)
    (rd_Change : PySem.W.readsIn K f_Change (.type "type") = true)
    (ga_Change : PySem.W.specialIn K (.ref f_Change) "__getattribute__" = some (some (.builtin "type.__getattribute__")))
    (sf_Change : PySem.W.selfFirst K f_Change = true)
    (cv_Change_MOST : PySem.W.findCls K (.ref f_Change) (.type "type") "MOST" = some (.val (.int 8 tk_Change_MOST)))
    (at_Change_read : PySem.W.findCls K (.ref f_Change) (.type "type") "read" = some (.get (.builtin "classmethod.__get__") (.ref p_Change_read) .none (.ref f_Change)))
    (rc_Change_read : PySem.W.recIn K p_Change_read "classmethod" = some (.ref f_Change_read :: re_Change_read))
    (fm_Change_read : PySem.W.fnIn K f_Change_read = true)
    (l_Change_read : K.lookup f_Change_read = some ⟨oc_Change_read, od_Change_read, .func (PySem.W.fnOf "read" "Change.read" (defArgs s_Change_read) (defBody s_Change_read) (defScope s_Change_read) .none kV_Change_read dc_Change_read pm_Change_read an_Change_read cd_Change_read ct_Change_read), sl_Change_read⟩)
    (co_Change_read : PySem.W.codeIn K cd_Change_read "Change.read" = true)
    (kp_Change_read : PySem.W.keepIn K (.ref f_Change_read) = true)
    (ia_Change : PySem.W.findIn K (.ref f_Change) "__class__" = some (some (.builtin "object.__class__")))
    (im_Change : PySem.W.mroIn K f_Change (.type "object") = some true)
    (ci_Change : PySem.W.clsIn K f_Change = some cd_Change)
    (ti_Change : PySem.W.typeIn K (.ref f_Change) = some (.type "type"))
    (sn_Change_str : PySem.W.subIn K (.type "str") (.ref f_Change) = some false)
    (nf_Change_str : PySem.W.notFirst K f_Change (.type "str") = true)
    (sn_Change_tuple : PySem.W.subIn K (.type "tuple") (.ref f_Change) = some false)
    (nf_Change_tuple : PySem.W.notFirst K f_Change (.type "tuple") = true)
    (sn_Change_int : PySem.W.subIn K (.type "int") (.ref f_Change) = some false)
    (nf_Change_int : PySem.W.notFirst K f_Change (.type "int") = true)
    (sn_Change_NoneType : PySem.W.subIn K (.type "NoneType") (.ref f_Change) = some false)
    (nf_Change_NoneType : PySem.W.notFirst K f_Change (.type "NoneType") = true)
    (sn_Change_list : PySem.W.subIn K (.type "list") (.ref f_Change) = some false)
    (nf_Change_list : PySem.W.notFirst K f_Change (.type "list") = true)
    (sn_Change_dict : PySem.W.subIn K (.type "dict") (.ref f_Change) = some false)
    (nf_Change_dict : PySem.W.notFirst K f_Change (.type "dict") = true)
    (sn_Change_bool : PySem.W.subIn K (.type "bool") (.ref f_Change) = some false)
    (nf_Change_bool : PySem.W.notFirst K f_Change (.type "bool") = true)
    (en_Change : PySem.W.findIn K (.ref f_Change) "__ne__" = some (some (.builtin "object.__ne__")))
    (in0 : PySem.W.specialIn K (.builtin "object.__class__") "__get__" = some (some (.builtin "getset_descriptor.__get__")))
    (it0 : PySem.W.takesIn K (.builtin "object.__class__") = some true)
    (a_SIGNS : PySem.W.nsIn K mainGlobals "SIGNS" = some (some (.ref k_SIGNS)))
    (lt_SIGNS : K.lookup k_SIGNS = some ⟨.type "tuple", tod_SIGNS, .seq its_SIGNS tn_SIGNS, tsl_SIGNS⟩)
    (sz_SIGNS : its_SIGNS.size ≤ sizeLine)
    (vl_SIGNS : Vals [.str "+", .str "-", .str "="] its_SIGNS.toList)
    (a_PATTERNS : PySem.W.nsIn K mainGlobals "PATTERNS" = some (some (.ref k_PATTERNS)))
    (lt_PATTERNS : K.lookup k_PATTERNS = some ⟨.type "tuple", tod_PATTERNS, .seq its_PATTERNS tn_PATTERNS, tsl_PATTERNS⟩)
    (sz_PATTERNS : its_PATTERNS.size ≤ sizeLine)
    (vl_PATTERNS : Vals ([0, 1, 2, 3, 4, 5, 6, 7].map V.int) its_PATTERNS.toList)
    (a_PARTS : PySem.W.nsIn K mainGlobals "PARTS" = some (some (.ref k_PARTS)))
    (lt_PARTS : K.lookup k_PARTS = some ⟨.type "tuple", tod_PARTS, .seq its_PARTS tn_PARTS, tsl_PARTS⟩)
    (sz_PARTS : its_PARTS.size ≤ sizeLine)
    (vl_PARTS : Vals [.ref k_P1, .ref k_P2, .ref k_P3, .ref k_P4] its_PARTS.toList)
    (lt_P1 : K.lookup k_P1 = some ⟨.type "tuple", tod_P1, .seq its_P1 tn_P1, tsl_P1⟩)
    (sz_P1 : its_P1.size ≤ sizeLine)
    (vl_P1 : Vals [.str "r", .str "file"] its_P1.toList)
    (lt_P2 : K.lookup k_P2 = some ⟨.type "tuple", tod_P2, .seq its_P2 tn_P2, tsl_P2⟩)
    (sz_P2 : its_P2.size ≤ sizeLine)
    (vl_P2 : Vals [.str "w", .str "file"] its_P2.toList)
    (lt_P3 : K.lookup k_P3 = some ⟨.type "tuple", tod_P3, .seq its_P3 tn_P3, tsl_P3⟩)
    (sz_P3 : its_P3.size ≤ sizeLine)
    (vl_P3 : Vals [.str "x", .str "file"] its_P3.toList)
    (lt_P4 : K.lookup k_P4 = some ⟨.type "tuple", tod_P4, .seq its_P4 tn_P4, tsl_P4⟩)
    (sz_P4 : its_P4.size ≤ sizeLine)
    (vl_P4 : Vals [.str "x", .str "folder"] its_P4.toList)
    (a_CLASSES : PySem.W.nsIn K mainGlobals "CLASSES" = some (some (.ref k_CLASSES)))
    (ld_CL : K.lookup k_CLASSES = some ⟨.type "dict", none, .dict es_CL n_CL, #[]⟩)
    (kl_CL : PySem.W.KeysLit w.params es_CL.toList)
    (lw_CL : (k_CLASSES == sysModules) = false)
    (eu_CL : PySem.W.nsIn K k_CLASSES "u" = some (some (.int 4 tku)))
    (eg_CL : PySem.W.nsIn K k_CLASSES "g" = some (some (.int 2 tkg)))
    (eo_CL : PySem.W.nsIn K k_CLASSES "o" = some (some (.int 1 tko)))
    (w0_CL : PySem.W.nsIn K k_CLASSES "r" = some none)
    (w1_CL : PySem.W.nsIn K k_CLASSES "w" = some none)
    (w2_CL : PySem.W.nsIn K k_CLASSES "x" = some none)
    (w3_CL : PySem.W.nsIn K k_CLASSES "X" = some none)
    (w4_CL : PySem.W.nsIn K k_CLASSES "rw" = some none)
    (w5_CL : PySem.W.nsIn K k_CLASSES "rx" = some none)
    (w6_CL : PySem.W.nsIn K k_CLASSES "rX" = some none)
    (w7_CL : PySem.W.nsIn K k_CLASSES "wx" = some none)
    (w8_CL : PySem.W.nsIn K k_CLASSES "wX" = some none)
    (w9_CL : PySem.W.nsIn K k_CLASSES "xX" = some none)
    (w10_CL : PySem.W.nsIn K k_CLASSES "rwx" = some none)
    (w11_CL : PySem.W.nsIn K k_CLASSES "rwX" = some none)
    (w12_CL : PySem.W.nsIn K k_CLASSES "rxX" = some none)
    (w13_CL : PySem.W.nsIn K k_CLASSES "wxX" = some none)
    (w14_CL : PySem.W.nsIn K k_CLASSES "rwxX" = some none)
    (w15_CL : PySem.W.nsIn K k_CLASSES "" = some none)
    (a_BadClause : PySem.W.nsIn K mainGlobals "BadClause" = some (some (.ref x_BadClause)))
    (cix_BadClause : PySem.W.clsIn K x_BadClause = some cdx_BadClause)
    (tix_BadClause : PySem.W.typeIn K (.ref x_BadClause) = some (.type "type"))
    (a_TooMany : PySem.W.nsIn K mainGlobals "TooMany" = some (some (.ref x_TooMany)))
    (cix_TooMany : PySem.W.clsIn K x_TooMany = some cdx_TooMany)
    (tix_TooMany : PySem.W.typeIn K (.ref x_TooMany) = some (.type "type"))
    (a_NoWay : PySem.W.nsIn K mainGlobals "NoWay" = some (some (.ref x_NoWay)))
    (cix_NoWay : PySem.W.clsIn K x_NoWay = some cdx_NoWay)
    (tix_NoWay : PySem.W.typeIn K (.ref x_NoWay) = some (.type "type"))
    (a_ModesError : PySem.W.nsIn K mainGlobals "ModesError" = some (some (.ref x_ModesError)))
    (cix_ModesError : PySem.W.clsIn K x_ModesError = some cdx_ModesError)
    (tix_ModesError : PySem.W.typeIn K (.ref x_ModesError) = some (.type "type"))
    (bex_ME : PySem.W.subIn K (.ref x_ModesError) (.type "BaseException") = some true)
    (xl_BadClause : K.lookup x_BadClause = some (excClassObj nmBadClause qBadClause x_BadClause NBadClause bsBadClause bmBadClause true snBadClause subBadClause abBadClause colBadClause ddBadClause m0BadClause m1BadClause m2BadClause m3BadClause m5BadClause "ValueError.__new__"))
    (rf_BadClause : PySem.HandSPX.refsVE bmBadClause = true)
    (sa_BadClause : PySem.W.findIn K (.ref x_BadClause) "__setattr__" = some (some (.builtin "object.__setattr__")))
    (ex_BadClause : PySem.W.subIn K (.ref x_BadClause) (.type "BaseException") = some true)
    (kp_BadClause : PySem.W.keepIn K (.ref x_BadClause) = true)
    (ga_BadClause : PySem.W.findIn K (.ref x_BadClause) "__getattribute__" = some (some (.builtin "BaseException.__getattribute__")))
    (gg_BadClause : PySem.W.findIn K (.ref x_BadClause) "__getattr__" = some none)
    (hd_BadClause : PySem.W.hasDictIn K x_BadClause = true)
    (cc_BadClause : PySem.W.findIn K (.ref x_BadClause) "__class__" = some (some (.builtin "object.__class__")))
    (mr_BadClause : PySem.W.mroIn K x_BadClause (.type "object") = some true)
    (np_BadClause : PySem.W.findIn K (.ref x_BadClause) "at" = some none)
    (in_BadClause : PySem.W.findIn K (.ref x_BadClause) "__init__" = some (some (.ref f_BadClauseD_initD)))
    (ti_BadClauseD_initD : PySem.W.typeIn K (.ref f_BadClauseD_initD) = some (.type "function"))
    (l_BadClauseD_initD : K.lookup f_BadClauseD_initD = some ⟨oc_BadClauseD_initD, od_BadClauseD_initD, .func (PySem.W.fnOf "__init__" "BadClause.__init__" (defArgs s_BadClauseD_initD) (defBody s_BadClauseD_initD) (defScope s_BadClauseD_initD) .none kV_BadClauseD_initD dc_BadClauseD_initD pm_BadClauseD_initD an_BadClauseD_initD cd_BadClauseD_initD ct_BadClauseD_initD), sl_BadClauseD_initD⟩)
    (co_BadClauseD_initD : PySem.W.codeIn K cd_BadClauseD_initD "BadClause.__init__" = true)
    (kp_BadClauseD_initD : PySem.W.keepIn K (.ref f_BadClauseD_initD) = true)
    (suME_BadClause : PySem.W.subIn K (.ref x_BadClause) (.ref x_ModesError) = some true)
    (suX_BadClause : PySem.W.subIn K (.ref x_BadClause) (.ref x_BadClause) = some true)
    (xl_TooMany : K.lookup x_TooMany = some (excClassObj nmTooMany qTooMany x_TooMany NTooMany bsTooMany bmTooMany true snTooMany subTooMany abTooMany colTooMany ddTooMany m0TooMany m1TooMany m2TooMany m3TooMany m5TooMany "ValueError.__new__"))
    (rf_TooMany : PySem.HandSPX.refsVE bmTooMany = true)
    (sa_TooMany : PySem.W.findIn K (.ref x_TooMany) "__setattr__" = some (some (.builtin "object.__setattr__")))
    (ex_TooMany : PySem.W.subIn K (.ref x_TooMany) (.type "BaseException") = some true)
    (kp_TooMany : PySem.W.keepIn K (.ref x_TooMany) = true)
    (ga_TooMany : PySem.W.findIn K (.ref x_TooMany) "__getattribute__" = some (some (.builtin "BaseException.__getattribute__")))
    (gg_TooMany : PySem.W.findIn K (.ref x_TooMany) "__getattr__" = some none)
    (hd_TooMany : PySem.W.hasDictIn K x_TooMany = true)
    (cc_TooMany : PySem.W.findIn K (.ref x_TooMany) "__class__" = some (some (.builtin "object.__class__")))
    (mr_TooMany : PySem.W.mroIn K x_TooMany (.type "object") = some true)
    (np_TooMany : PySem.W.findIn K (.ref x_TooMany) "most" = some none)
    (in_TooMany : PySem.W.findIn K (.ref x_TooMany) "__init__" = some (some (.ref f_TooManyD_initD)))
    (ti_TooManyD_initD : PySem.W.typeIn K (.ref f_TooManyD_initD) = some (.type "function"))
    (l_TooManyD_initD : K.lookup f_TooManyD_initD = some ⟨oc_TooManyD_initD, od_TooManyD_initD, .func (PySem.W.fnOf "__init__" "TooMany.__init__" (defArgs s_TooManyD_initD) (defBody s_TooManyD_initD) (defScope s_TooManyD_initD) .none kV_TooManyD_initD dc_TooManyD_initD pm_TooManyD_initD an_TooManyD_initD cd_TooManyD_initD ct_TooManyD_initD), sl_TooManyD_initD⟩)
    (co_TooManyD_initD : PySem.W.codeIn K cd_TooManyD_initD "TooMany.__init__" = true)
    (kp_TooManyD_initD : PySem.W.keepIn K (.ref f_TooManyD_initD) = true)
    (suME_TooMany : PySem.W.subIn K (.ref x_TooMany) (.ref x_ModesError) = some true)
    (suX_TooMany : PySem.W.subIn K (.ref x_TooMany) (.ref x_TooMany) = some true)
    (suBT : PySem.W.subIn K (.ref x_BadClause) (.ref x_TooMany) = some false)
    (neBT : x_BadClause ≠ x_TooMany)
    (suTN : PySem.W.subIn K (.ref x_TooMany) (.ref x_NoWay) = some true)
    (neTN : x_TooMany ≠ x_NoWay)
    (mro_Change : cd_Change.mro = [.ref f_Change, .type "object"])
    (imF_Change : PySem.W.findIn K (.ref f_Change) (PySem.dunderI "mul") = some none)
    (imO : PySem.W.findIn K (.type "object") (PySem.dunderI "mul") = some none)
    (a_law : PySem.W.nsIn K mainGlobals "law" = some (some (.ref f_law)))
    (l_law : K.lookup f_law = some ⟨oc_law, od_law, .func (PySem.W.fnOf "law" "law" (defArgs s_law) (defBody s_law) (defScope s_law) .none kV_law dc_law pm_law an_law (.ref cA) ct_law), sl_law⟩)
    (co_law : PySem.W.codeIn K (.ref cA) "law" = true)
    (kp_law : PySem.W.keepIn K (.ref f_law) = true)
    (lc_P0 : K.lookup cA = some ⟨.type "code", od_cA, .fields vs_cA, sl_cA⟩)
    (v11_P0 : vs_cA[11]? = some (.ref P0))
    (ch_P0 : PySem.W.codeHdIn K cA P0 = true)
    (kl_P0 : K.lookup P0 = none)
    (tb_P0 : h.get? P0 = some { cls := .none, data := .fields #[] })
    (lc_PM : K.lookup cM = some ⟨.type "code", od_cM, .fields vs_cM, sl_cM⟩)
    (v11_PM : vs_cM[11]? = some (.ref PM))
    (ch_PM : PySem.W.codeHdIn K cM PM = true)
    (kl_PM : K.lookup PM = none)
    (tb_PM : h.get? PM = some { cls := .none, data := .fields #[] })
    (lc_PJ : K.lookup cJ = some ⟨.type "code", od_cJ, .fields vs_cJ, sl_cJ⟩)
    (v11_PJ : vs_cJ[11]? = some (.ref PJ))
    (ch_PJ : PySem.W.codeHdIn K cJ PJ = true)
    (kl_PJ : K.lookup PJ = none)
    (tb_PJ : h.get? PJ = some { cls := .none, data := .fields #[] })
    (ne_0M : P0 ≠ PM)
    (ne_0J : P0 ≠ PJ)
    (ne_MJ : PM ≠ PJ)
    : KD.LawTop l w K "_law_script" mg fa h := by
  have e := hfa.symm.trans (PySem.W.mg_of X G a_law)
  obtain rfl : f_law = fa := by cases e; rfl
  have T : Txt w K mg { f_is_choice := f_is_choice, d_is_choice := PySem.W.fnOf "is_choice" "is_choice" (defArgs s_is_choice) (defBody s_is_choice) (defScope s_is_choice) .none kV_is_choice dc_is_choice pm_is_choice an_is_choice cd_is_choice ct_is_choice, f_is_meant := f_is_meant, d_is_meant := PySem.W.fnOf "is_meant" "is_meant" (defArgs s_is_meant) (defBody s_is_meant) (defScope s_is_meant) .none kV_is_meant dc_is_meant pm_is_meant an_is_meant cd_is_meant ct_is_meant, f_pattern_behind := f_pattern_behind, d_pattern_behind := PySem.W.fnOf "pattern_behind" "pattern_behind" (defArgs s_pattern_behind) (defBody s_pattern_behind) (defScope s_pattern_behind) .none kV_pattern_behind dc_pattern_behind pm_pattern_behind an_pattern_behind cd_pattern_behind ct_pattern_behind, f_part_of := f_part_of, d_part_of := PySem.W.fnOf "part_of" "part_of" (defArgs s_part_of) (defBody s_part_of) (defScope s_part_of) .none kV_part_of dc_part_of pm_part_of an_part_of cd_part_of ct_part_of, f_in_turn := f_in_turn, d_in_turn := PySem.W.fnOf "in_turn" "in_turn" (defArgs s_in_turn) (defBody s_in_turn) (defScope s_in_turn) .none kV_in_turn dc_in_turn pm_in_turn an_in_turn cd_in_turn ct_in_turn, f_tables_of := f_tables_of, d_tables_of := PySem.W.fnOf "tables_of" "tables_of" (defArgs s_tables_of) (defBody s_tables_of) (defScope s_tables_of) .none kV_tables_of dc_tables_of pm_tables_of an_tables_of cd_tables_of ct_tables_of, f__law_pen := f__law_pen, d__law_pen := PySem.W.fnOf "_law_pen" "_law_pen" (defArgs s__law_pen) (defBody s__law_pen) (defScope s__law_pen) .none kV__law_pen dc__law_pen pm__law_pen an__law_pen cd__law_pen ct__law_pen, f__law_draw := f__law_draw, d__law_draw := PySem.W.fnOf "_law_draw" "_law_draw" (defArgs s__law_draw) (defBody s__law_draw) (defScope s__law_draw) .none kV__law_draw dc__law_draw pm__law_draw an__law_draw cd__law_draw ct__law_draw, f__law_pick := f__law_pick, d__law_pick := PySem.W.fnOf "_law_pick" "_law_pick" (defArgs s__law_pick) (defBody s__law_pick) (defScope s__law_pick) .none kV__law_pick dc__law_pick pm__law_pick an__law_pick cd__law_pick ct__law_pick, f__law_clause := f__law_clause, d__law_clause := PySem.W.fnOf "_law_clause" "_law_clause" (defArgs s__law_clause) (defBody s__law_clause) (defScope s__law_clause) .none kV__law_clause dc__law_clause pm__law_clause an__law_clause cd__law_clause ct__law_clause, f__law_text := f__law_text, d__law_text := PySem.W.fnOf "_law_text" "_law_text" (defArgs s__law_text) (defBody s__law_text) (defScope s__law_text) .none kV__law_text dc__law_text pm__law_text an__law_text cd__law_text ct__law_text, f__law_change_text := f__law_change_text, d__law_change_text := PySem.W.fnOf "_law_change_text" "_law_change_text" (defArgs s__law_change_text) (defBody s__law_change_text) (defScope s__law_change_text) .none kV__law_change_text dc__law_change_text pm__law_change_text an__law_change_text cd__law_change_text ct__law_change_text, f__law_made := f__law_made, d__law_made := PySem.W.fnOf "_law_made" "_law_made" (defArgs s__law_made) (defBody s__law_made) (defScope s__law_made) .none kV__law_made dc__law_made pm__law_made an__law_made cd__law_made ct__law_made, f__law_call := f__law_call, d__law_call := PySem.W.fnOf "_law_call" "_law_call" (defArgs s__law_call) (defBody s__law_call) (defScope s__law_call) .none kV__law_call dc__law_call pm__law_call an__law_call cd__law_call ct__law_call, f__law_heard := f__law_heard, d__law_heard := PySem.W.fnOf "_law_heard" "_law_heard" (defArgs s__law_heard) (defBody s__law_heard) (defScope s__law_heard) .none kV__law_heard dc__law_heard pm__law_heard an__law_heard cd__law_heard ct__law_heard, f__law_shown := f__law_shown, d__law_shown := PySem.W.fnOf "_law_shown" "_law_shown" (defArgs s__law_shown) (defBody s__law_shown) (defScope s__law_shown) .none kV__law_shown dc__law_shown pm__law_shown an__law_shown cd__law_shown ct__law_shown, f__law_is_clause := f__law_is_clause, d__law_is_clause := PySem.W.fnOf "_law_is_clause" "_law_is_clause" (defArgs s__law_is_clause) (defBody s__law_is_clause) (defScope s__law_is_clause) .none kV__law_is_clause dc__law_is_clause pm__law_is_clause an__law_is_clause cd__law_is_clause ct__law_is_clause, f__law_text_due := f__law_text_due, d__law_text_due := PySem.W.fnOf "_law_text_due" "_law_text_due" (defArgs s__law_text_due) (defBody s__law_text_due) (defScope s__law_text_due) .none kV__law_text_due dc__law_text_due pm__law_text_due an__law_text_due cd__law_text_due ct__law_text_due, f__law_bent := f__law_bent, d__law_bent := PySem.W.fnOf "_law_bent" "_law_bent" (defArgs s__law_bent) (defBody s__law_bent) (defScope s__law_bent) .none kV__law_bent dc__law_bent pm__law_bent an__law_bent cd__law_bent ct__law_bent, f__law_made_right := f__law_made_right, d__law_made_right := PySem.W.fnOf "_law_made_right" "_law_made_right" (defArgs s__law_made_right) (defBody s__law_made_right) (defScope s__law_made_right) .none kV__law_made_right dc__law_made_right pm__law_made_right an__law_made_right (.ref cM) ct__law_made_right, f__law_joined_right := f__law_joined_right, d__law_joined_right := PySem.W.fnOf "_law_joined_right" "_law_joined_right" (defArgs s__law_joined_right) (defBody s__law_joined_right) (defScope s__law_joined_right) .none kV__law_joined_right dc__law_joined_right pm__law_joined_right an__law_joined_right (.ref cJ) ct__law_joined_right, f_Clause := f_Clause, f_ClauseD_initD := f_ClauseD_initD, d_ClauseD_initD := PySem.W.fnOf "__init__" "Clause.__init__" (defArgs s_ClauseD_initD) (defBody s_ClauseD_initD) (defScope s_ClauseD_initD) .none kV_ClauseD_initD dc_ClauseD_initD pm_ClauseD_initD an_ClauseD_initD cd_ClauseD_initD ct_ClauseD_initD, f_Clause_who := f_Clause_who, d_Clause_who := PySem.W.fnOf "who" "Clause.who" (defArgs s_Clause_who) (defBody s_Clause_who) (defScope s_Clause_who) .none kV_Clause_who dc_Clause_who pm_Clause_who an_Clause_who cd_Clause_who ct_Clause_who, p_Clause_who := p_Clause_who, f_Clause_sign := f_Clause_sign, d_Clause_sign := PySem.W.fnOf "sign" "Clause.sign" (defArgs s_Clause_sign) (defBody s_Clause_sign) (defScope s_Clause_sign) .none kV_Clause_sign dc_Clause_sign pm_Clause_sign an_Clause_sign cd_Clause_sign ct_Clause_sign, p_Clause_sign := p_Clause_sign, f_Clause_what := f_Clause_what, d_Clause_what := PySem.W.fnOf "what" "Clause.what" (defArgs s_Clause_what) (defBody s_Clause_what) (defScope s_Clause_what) .none kV_Clause_what dc_Clause_what pm_Clause_what an_Clause_what cd_Clause_what ct_Clause_what, p_Clause_what := p_Clause_what, f_ClauseD_strD := f_ClauseD_strD, d_ClauseD_strD := PySem.W.fnOf "__str__" "Clause.__str__" (defArgs s_ClauseD_strD) (defBody s_ClauseD_strD) (defScope s_ClauseD_strD) .none kV_ClauseD_strD dc_ClauseD_strD pm_ClauseD_strD an_ClauseD_strD cd_ClauseD_strD ct_ClauseD_strD, f_ClauseD_eqD := f_ClauseD_eqD, d_ClauseD_eqD := PySem.W.fnOf "__eq__" "Clause.__eq__" (defArgs s_ClauseD_eqD) (defBody s_ClauseD_eqD) (defScope s_ClauseD_eqD) .none kV_ClauseD_eqD dc_ClauseD_eqD pm_ClauseD_eqD an_ClauseD_eqD cd_ClauseD_eqD ct_ClauseD_eqD, f_Clause_read := f_Clause_read, d_Clause_read := PySem.W.fnOf "read" "Clause.read" (defArgs s_Clause_read) (defBody s_Clause_read) (defScope s_Clause_read) .none kV_Clause_read dc_Clause_read pm_Clause_read an_Clause_read cd_Clause_read ct_Clause_read, p_Clause_read := p_Clause_read, f_Change := f_Change, f_ChangeD_initD := f_ChangeD_initD, d_ChangeD_initD := PySem.W.fnOf "__init__" "Change.__init__" (defArgs s_ChangeD_initD) (defBody s_ChangeD_initD) (defScope s_ChangeD_initD) .none kV_ChangeD_initD dc_ChangeD_initD pm_ChangeD_initD an_ChangeD_initD cd_ChangeD_initD ct_ChangeD_initD, f_Change_clauses := f_Change_clauses, d_Change_clauses := PySem.W.fnOf "clauses" "Change.clauses" (defArgs s_Change_clauses) (defBody s_Change_clauses) (defScope s_Change_clauses) .none kV_Change_clauses dc_Change_clauses pm_Change_clauses an_Change_clauses cd_Change_clauses ct_Change_clauses, p_Change_clauses := p_Change_clauses, f_ChangeD_strD := f_ChangeD_strD, d_ChangeD_strD := PySem.W.fnOf "__str__" "Change.__str__" (defArgs s_ChangeD_strD) (defBody s_ChangeD_strD) (defScope s_ChangeD_strD) .none kV_ChangeD_strD dc_ChangeD_strD pm_ChangeD_strD an_ChangeD_strD cd_ChangeD_strD ct_ChangeD_strD, f_ChangeD_eqD := f_ChangeD_eqD, d_ChangeD_eqD := PySem.W.fnOf "__eq__" "Change.__eq__" (defArgs s_ChangeD_eqD) (defBody s_ChangeD_eqD) (defScope s_ChangeD_eqD) .none kV_ChangeD_eqD dc_ChangeD_eqD pm_ChangeD_eqD an_ChangeD_eqD cd_ChangeD_eqD ct_ChangeD_eqD, f_ChangeD_mulD := f_ChangeD_mulD, d_ChangeD_mulD := PySem.W.fnOf "__mul__" "Change.__mul__" (defArgs s_ChangeD_mulD) (defBody s_ChangeD_mulD) (defScope s_ChangeD_mulD) .none kV_ChangeD_mulD dc_ChangeD_mulD pm_ChangeD_mulD an_ChangeD_mulD cd_ChangeD_mulD ct_ChangeD_mulD, f_Change_read := f_Change_read, d_Change_read := PySem.W.fnOf "read" "Change.read" (defArgs s_Change_read) (defBody s_Change_read) (defScope s_Change_read) .none kV_Change_read dc_Change_read pm_Change_read an_Change_read cd_Change_read ct_Change_read, p_Change_read := p_Change_read, k_SIGNS := k_SIGNS, k_PATTERNS := k_PATTERNS, k_PARTS := k_PARTS, k_CLASSES := k_CLASSES, x_BadClause := x_BadClause, x_TooMany := x_TooMany, x_NoWay := x_NoWay, x_ModesError := x_ModesError, f_BadClauseD_initD := f_BadClauseD_initD, d_BadClauseD_initD := PySem.W.fnOf "__init__" "BadClause.__init__" (defArgs s_BadClauseD_initD) (defBody s_BadClauseD_initD) (defScope s_BadClauseD_initD) .none kV_BadClauseD_initD dc_BadClauseD_initD pm_BadClauseD_initD an_BadClauseD_initD cd_BadClauseD_initD ct_BadClauseD_initD, f_TooManyD_initD := f_TooManyD_initD, d_TooManyD_initD := PySem.W.fnOf "__init__" "TooMany.__init__" (defArgs s_TooManyD_initD) (defBody s_TooManyD_initD) (defScope s_TooManyD_initD) .none kV_TooManyD_initD dc_TooManyD_initD pm_TooManyD_initD an_TooManyD_initD cd_TooManyD_initD ct_TooManyD_initD, cA := cA, P0 := P0, cM := cM, PM := PM, cJ := cJ, PJ := PJ } := {
    b_isinstance := PySem.W.mg_none_of X G z_isinstance,
    b_int := PySem.W.mg_none_of X G z_int,
    b_bool := PySem.W.mg_none_of X G z_bool,
    b_str := PySem.W.mg_none_of X G z_str,
    b_sum := PySem.W.mg_none_of X G z_sum,
    b_tuple := PySem.W.mg_none_of X G z_tuple,
    b_list := PySem.W.mg_none_of X G z_list,
    b_len := PySem.W.mg_none_of X G z_len,
    b_abs := PySem.W.mg_none_of X G z_abs,
    b_range := PySem.W.mg_none_of X G z_range,
    b_enumerate := PySem.W.mg_none_of X G z_enumerate,
    b_repr := PySem.W.mg_none_of X G z_repr,
    b_zip := PySem.W.mg_none_of X G z_zip,
    mg_is_choice := PySem.W.mg_of X G a_is_choice,
    fn_is_choice := fun_mk (st := s_is_choice) l_is_choice co_is_choice kp_is_choice,
    mg_is_meant := PySem.W.mg_of X G a_is_meant,
    fn_is_meant := fun_mk (st := s_is_meant) l_is_meant co_is_meant kp_is_meant,
    mg_pattern_behind := PySem.W.mg_of X G a_pattern_behind,
    fn_pattern_behind := fun_mk (st := s_pattern_behind) l_pattern_behind co_pattern_behind kp_pattern_behind,
    mg_part_of := PySem.W.mg_of X G a_part_of,
    fn_part_of := fun_mk (st := s_part_of) l_part_of co_part_of kp_part_of,
    mg_in_turn := PySem.W.mg_of X G a_in_turn,
    fn_in_turn := fun_mk (st := s_in_turn) l_in_turn co_in_turn kp_in_turn,
    mg_tables_of := PySem.W.mg_of X G a_tables_of,
    fn_tables_of := fun_mk (st := s_tables_of) l_tables_of co_tables_of kp_tables_of,
    mg__law_pen := PySem.W.mg_of X G a__law_pen,
    fn__law_pen := fun_mk (st := s__law_pen) l__law_pen co__law_pen kp__law_pen,
    mg__law_draw := PySem.W.mg_of X G a__law_draw,
    fn__law_draw := fun_mk (st := s__law_draw) l__law_draw co__law_draw kp__law_draw,
    mg__law_pick := PySem.W.mg_of X G a__law_pick,
    fn__law_pick := fun_mk (st := s__law_pick) l__law_pick co__law_pick kp__law_pick,
    mg__law_clause := PySem.W.mg_of X G a__law_clause,
    fn__law_clause := fun_mk (st := s__law_clause) l__law_clause co__law_clause kp__law_clause,
    mg__law_text := PySem.W.mg_of X G a__law_text,
    fn__law_text := fun_mk (st := s__law_text) l__law_text co__law_text kp__law_text,
    mg__law_change_text := PySem.W.mg_of X G a__law_change_text,
    fn__law_change_text := fun_mk (st := s__law_change_text) l__law_change_text co__law_change_text kp__law_change_text,
    mg__law_made := PySem.W.mg_of X G a__law_made,
    fn__law_made := fun_mk (st := s__law_made) l__law_made co__law_made kp__law_made,
    mg__law_call := PySem.W.mg_of X G a__law_call,
    fn__law_call := fun_mk (st := s__law_call) l__law_call co__law_call kp__law_call,
    mg__law_heard := PySem.W.mg_of X G a__law_heard,
    fn__law_heard := fun_mk (st := s__law_heard) l__law_heard co__law_heard kp__law_heard,
    mg__law_shown := PySem.W.mg_of X G a__law_shown,
    fn__law_shown := fun_mk (st := s__law_shown) l__law_shown co__law_shown kp__law_shown,
    mg__law_is_clause := PySem.W.mg_of X G a__law_is_clause,
    fn__law_is_clause := fun_mk (st := s__law_is_clause) l__law_is_clause co__law_is_clause kp__law_is_clause,
    mg__law_text_due := PySem.W.mg_of X G a__law_text_due,
    fn__law_text_due := fun_mk (st := s__law_text_due) l__law_text_due co__law_text_due kp__law_text_due,
    mg__law_bent := PySem.W.mg_of X G a__law_bent,
    fn__law_bent := fun_mk (st := s__law_bent) l__law_bent co__law_bent kp__law_bent,
    mg__law_made_right := PySem.W.mg_of X G a__law_made_right,
    fn__law_made_right := fun_mk (st := s__law_made_right) l__law_made_right co__law_made_right kp__law_made_right,
    mg__law_joined_right := PySem.W.mg_of X G a__law_joined_right,
    fn__law_joined_right := fun_mk (st := s__law_joined_right) l__law_joined_right co__law_joined_right kp__law_joined_right,
    mg_Clause := PySem.W.mg_of X G a_Clause,
    c_Clause := ⟨pg_Clause, hd_Clause, po_Clause, sa_Clause⟩,
    n_who_Clause := n_who_Clause,
    n_sign_Clause := n_sign_Clause,
    n_what_Clause := n_what_Clause,
    n_tables_Clause := n_tables_Clause,
    mk_Clause := ⟨mk_Clause, at_ClauseD_initD, fi_ClauseD_initD, kc_Clause⟩,
    fn_ClauseD_initD := fun_mk (st := s_ClauseD_initD) l_ClauseD_initD co_ClauseD_initD kp_ClauseD_initD,
    p_Clause_who := ⟨at_Clause_who, ge_Clause_who, ta_Clause_who, ⟨_, rc_Clause_who⟩⟩,
    fn_Clause_who := fun_mk (st := s_Clause_who) l_Clause_who co_Clause_who kp_Clause_who,
    p_Clause_sign := ⟨at_Clause_sign, ge_Clause_sign, ta_Clause_sign, ⟨_, rc_Clause_sign⟩⟩,
    fn_Clause_sign := fun_mk (st := s_Clause_sign) l_Clause_sign co_Clause_sign kp_Clause_sign,
    p_Clause_what := ⟨at_Clause_what, ge_Clause_what, ta_Clause_what, ⟨_, rc_Clause_what⟩⟩,
    fn_Clause_what := fun_mk (st := s_Clause_what) l_Clause_what co_Clause_what kp_Clause_what,
    m_ClauseD_strD := ⟨at_ClauseD_strD, fi_ClauseD_strD, kp_ClauseD_strD⟩,
    fn_ClauseD_strD := fun_mk (st := s_ClauseD_strD) l_ClauseD_strD co_ClauseD_strD kp_ClauseD_strD,
    m_ClauseD_eqD := ⟨at_ClauseD_eqD, fi_ClauseD_eqD, kp_ClauseD_eqD⟩,
    fn_ClauseD_eqD := fun_mk (st := s_ClauseD_eqD) l_ClauseD_eqD co_ClauseD_eqD kp_ClauseD_eqD,
    m_Clause_read := ⟨at_Clause_read, ⟨_, rc_Clause_read⟩, fm_Clause_read⟩,
    fn_Clause_read := fun_mk (st := s_Clause_read) l_Clause_read co_Clause_read kp_Clause_read,
    r_Clause := ⟨rd_Clause, ga_Clause⟩,
    ia_Clause := ia_Clause,
    im_Clause := im_Clause,
    is_Clause := kit_self,
    nt_Clause_str := kit_noT ci_Clause ti_Clause sn_Clause_str,
    nf_Clause_str := nf_Clause_str,
    nt_Clause_tuple := kit_noT ci_Clause ti_Clause sn_Clause_tuple,
    nf_Clause_tuple := nf_Clause_tuple,
    nt_Clause_int := kit_noT ci_Clause ti_Clause sn_Clause_int,
    nf_Clause_int := nf_Clause_int,
    nt_Clause_NoneType := kit_noT ci_Clause ti_Clause sn_Clause_NoneType,
    nf_Clause_NoneType := nf_Clause_NoneType,
    nt_Clause_list := kit_noT ci_Clause ti_Clause sn_Clause_list,
    nf_Clause_list := nf_Clause_list,
    nt_Clause_dict := kit_noT ci_Clause ti_Clause sn_Clause_dict,
    nf_Clause_dict := nf_Clause_dict,
    nt_Clause_bool := kit_noT ci_Clause ti_Clause sn_Clause_bool,
    nf_Clause_bool := nf_Clause_bool,
    en_Clause := en_Clause,
    mg_Change := PySem.W.mg_of X G a_Change,
    c_Change := ⟨pg_Change, hd_Change, po_Change, sa_Change⟩,
    n_clauses_Change := n_clauses_Change,
    n_tables_Change := n_tables_Change,
    mk_Change := ⟨mk_Change, at_ChangeD_initD, fi_ChangeD_initD, kc_Change⟩,
    fn_ChangeD_initD := fun_mk (st := s_ChangeD_initD) l_ChangeD_initD co_ChangeD_initD kp_ChangeD_initD,
    p_Change_clauses := ⟨at_Change_clauses, ge_Change_clauses, ta_Change_clauses, ⟨_, rc_Change_clauses⟩⟩,
    fn_Change_clauses := fun_mk (st := s_Change_clauses) l_Change_clauses co_Change_clauses kp_Change_clauses,
    m_ChangeD_strD := ⟨at_ChangeD_strD, fi_ChangeD_strD, kp_ChangeD_strD⟩,
    fn_ChangeD_strD := fun_mk (st := s_ChangeD_strD) l_ChangeD_strD co_ChangeD_strD kp_ChangeD_strD,
    m_ChangeD_eqD := ⟨at_ChangeD_eqD, fi_ChangeD_eqD, kp_ChangeD_eqD⟩,
    fn_ChangeD_eqD := fun_mk (st := s_ChangeD_eqD) l_ChangeD_eqD co_ChangeD_eqD kp_ChangeD_eqD,
    m_ChangeD_mulD := ⟨at_ChangeD_mulD, fi_ChangeD_mulD, kp_ChangeD_mulD⟩,
    fn_ChangeD_mulD := fun_mk (st := s_ChangeD_mulD) l_ChangeD_mulD co_ChangeD_mulD kp_ChangeD_mulD,
    r_Change := ⟨rd_Change, ga_Change⟩,
    sf_Change := sf_Change,
    k_Change_MOST := ⟨_, ⟨cv_Change_MOST, ⟨_, rfl⟩⟩⟩,
    m_Change_read := ⟨at_Change_read, ⟨_, rc_Change_read⟩, fm_Change_read⟩,
    fn_Change_read := fun_mk (st := s_Change_read) l_Change_read co_Change_read kp_Change_read,
    ia_Change := ia_Change,
    im_Change := im_Change,
    is_Change := kit_self,
    nt_Change_str := kit_noT ci_Change ti_Change sn_Change_str,
    nf_Change_str := nf_Change_str,
    nt_Change_tuple := kit_noT ci_Change ti_Change sn_Change_tuple,
    nf_Change_tuple := nf_Change_tuple,
    nt_Change_int := kit_noT ci_Change ti_Change sn_Change_int,
    nf_Change_int := nf_Change_int,
    nt_Change_NoneType := kit_noT ci_Change ti_Change sn_Change_NoneType,
    nf_Change_NoneType := nf_Change_NoneType,
    nt_Change_list := kit_noT ci_Change ti_Change sn_Change_list,
    nf_Change_list := nf_Change_list,
    nt_Change_dict := kit_noT ci_Change ti_Change sn_Change_dict,
    nf_Change_dict := nf_Change_dict,
    nt_Change_bool := kit_noT ci_Change ti_Change sn_Change_bool,
    nf_Change_bool := nf_Change_bool,
    en_Change := en_Change,
    in_ := in0,
    it_ := it0,
    mg_SIGNS := PySem.W.mg_of X G a_SIGNS,
    t_SIGNS := fun H => tup_at lt_SIGNS sz_SIGNS vl_SIGNS,
    mg_PATTERNS := PySem.W.mg_of X G a_PATTERNS,
    t_PATTERNS := fun H => tup_at lt_PATTERNS sz_PATTERNS vl_PATTERNS,
    mg_PARTS := PySem.W.mg_of X G a_PARTS,
    t_PARTS := fun H => ⟨k_P1, k_P2, k_P3, k_P4, tup_at lt_PARTS sz_PARTS vl_PARTS, tup_at lt_P1 sz_P1 vl_P1, tup_at lt_P2 sz_P2 vl_P2, tup_at lt_P3 sz_P3 vl_P3, tup_at lt_P4 sz_P4 vl_P4⟩,
    mg_CLASSES := PySem.W.mg_of X G a_CLASSES,
    d_CLASSES := ⟨_, _, ⟨ld_CL, kl_CL, lw_CL⟩, ⟨_, eu_CL⟩, ⟨_, eg_CL⟩, ⟨_, eo_CL⟩, (List.forall_mem_cons.mpr ⟨w0_CL, (List.forall_mem_cons.mpr ⟨w1_CL, (List.forall_mem_cons.mpr ⟨w2_CL, (List.forall_mem_cons.mpr ⟨w3_CL, (List.forall_mem_cons.mpr ⟨w4_CL, (List.forall_mem_cons.mpr ⟨w5_CL, (List.forall_mem_cons.mpr ⟨w6_CL, (List.forall_mem_cons.mpr ⟨w7_CL, (List.forall_mem_cons.mpr ⟨w8_CL, (List.forall_mem_cons.mpr ⟨w9_CL, (List.forall_mem_cons.mpr ⟨w10_CL, (List.forall_mem_cons.mpr ⟨w11_CL, (List.forall_mem_cons.mpr ⟨w12_CL, (List.forall_mem_cons.mpr ⟨w13_CL, (List.forall_mem_cons.mpr ⟨w14_CL, (List.forall_mem_cons.mpr ⟨w15_CL, (List.forall_mem_nil _)⟩)⟩)⟩)⟩)⟩)⟩)⟩)⟩)⟩)⟩)⟩)⟩)⟩)⟩)⟩)⟩)⟩,
    mg_BadClause := PySem.W.mg_of X G a_BadClause,
    mg_TooMany := PySem.W.mg_of X G a_TooMany,
    mg_NoWay := PySem.W.mg_of X G a_NoWay,
    mg_ModesError := PySem.W.mg_of X G a_ModesError,
    ec_BadClause := ⟨ga_BadClause, gg_BadClause, ex_BadClause, hd_BadClause, cc_BadClause, in0, it0, mr_BadClause⟩,
    ox_BadClause := ⟨⟨_, _, _, _, _, _, _, _, _, _, _, _, _, _, _, xl_BadClause, rf_BadClause⟩, sa_BadClause, ex_BadClause, tix_BadClause, kp_BadClause⟩,
    ic_BadClause := in_BadClause,
    it_BadClause := ti_BadClauseD_initD,
    np_BadClause := np_BadClause,
    em_BadClause := exm_ref bex_ME cix_ModesError tix_ModesError suME_BadClause,
    em_BadClause_BadClause := exm_ref ex_BadClause cix_BadClause tix_BadClause suX_BadClause,
    ks_BadClause_BadClause := kit_self,
    fn_BadClauseD_initD := fun_mk (st := s_BadClauseD_initD) l_BadClauseD_initD co_BadClauseD_initD kp_BadClauseD_initD,
    ec_TooMany := ⟨ga_TooMany, gg_TooMany, ex_TooMany, hd_TooMany, cc_TooMany, in0, it0, mr_TooMany⟩,
    ox_TooMany := ⟨⟨_, _, _, _, _, _, _, _, _, _, _, _, _, _, _, xl_TooMany, rf_TooMany⟩, sa_TooMany, ex_TooMany, tix_TooMany, kp_TooMany⟩,
    ic_TooMany := in_TooMany,
    it_TooMany := ti_TooManyD_initD,
    np_TooMany := np_TooMany,
    em_TooMany := exm_ref bex_ME cix_ModesError tix_ModesError suME_TooMany,
    em_TooMany_TooMany := exm_ref ex_TooMany cix_TooMany tix_TooMany suX_TooMany,
    ks_TooMany_TooMany := kit_self,
    fn_TooManyD_initD := fun_mk (st := s_TooManyD_initD) l_TooManyD_initD co_TooManyD_initD kp_TooManyD_initD,
    ks_BadClause_TooMany := kit_ref cix_TooMany tix_TooMany suBT neBT,
    ks_TooMany_NoWay := kit_ref cix_NoWay tix_NoWay suTN neTN,
    om_Change := ⟨sf_Change, at_ChangeD_mulD, fi_ChangeD_mulD, ⟨_, ci_Change, mro_Change⟩, imF_Change, imO⟩,
    crM := ⟨_, _, _, _, _, _, _, _, rfl, l__law_made_right⟩,
    crM_code := co__law_made_right,
    crJ := ⟨_, _, _, _, _, _, _, _, rfl, l__law_joined_right⟩,
    crJ_code := co__law_joined_right,
    ne_0M := ne_0M,
    ne_0J := ne_0J,
    ne_MJ := ne_MJ
  }
  refine ⟨PySem.W.fnOf "law" "law" (defArgs s_law) (defBody s_law) (defScope s_law) .none kV_law dc_law pm_law an_law (.ref cA) ct_law, [(cA, P0), (cM, PM), (cJ, PJ)], spLaw { f_is_choice := f_is_choice, d_is_choice := PySem.W.fnOf "is_choice" "is_choice" (defArgs s_is_choice) (defBody s_is_choice) (defScope s_is_choice) .none kV_is_choice dc_is_choice pm_is_choice an_is_choice cd_is_choice ct_is_choice, f_is_meant := f_is_meant, d_is_meant := PySem.W.fnOf "is_meant" "is_meant" (defArgs s_is_meant) (defBody s_is_meant) (defScope s_is_meant) .none kV_is_meant dc_is_meant pm_is_meant an_is_meant cd_is_meant ct_is_meant, f_pattern_behind := f_pattern_behind, d_pattern_behind := PySem.W.fnOf "pattern_behind" "pattern_behind" (defArgs s_pattern_behind) (defBody s_pattern_behind) (defScope s_pattern_behind) .none kV_pattern_behind dc_pattern_behind pm_pattern_behind an_pattern_behind cd_pattern_behind ct_pattern_behind, f_part_of := f_part_of, d_part_of := PySem.W.fnOf "part_of" "part_of" (defArgs s_part_of) (defBody s_part_of) (defScope s_part_of) .none kV_part_of dc_part_of pm_part_of an_part_of cd_part_of ct_part_of, f_in_turn := f_in_turn, d_in_turn := PySem.W.fnOf "in_turn" "in_turn" (defArgs s_in_turn) (defBody s_in_turn) (defScope s_in_turn) .none kV_in_turn dc_in_turn pm_in_turn an_in_turn cd_in_turn ct_in_turn, f_tables_of := f_tables_of, d_tables_of := PySem.W.fnOf "tables_of" "tables_of" (defArgs s_tables_of) (defBody s_tables_of) (defScope s_tables_of) .none kV_tables_of dc_tables_of pm_tables_of an_tables_of cd_tables_of ct_tables_of, f__law_pen := f__law_pen, d__law_pen := PySem.W.fnOf "_law_pen" "_law_pen" (defArgs s__law_pen) (defBody s__law_pen) (defScope s__law_pen) .none kV__law_pen dc__law_pen pm__law_pen an__law_pen cd__law_pen ct__law_pen, f__law_draw := f__law_draw, d__law_draw := PySem.W.fnOf "_law_draw" "_law_draw" (defArgs s__law_draw) (defBody s__law_draw) (defScope s__law_draw) .none kV__law_draw dc__law_draw pm__law_draw an__law_draw cd__law_draw ct__law_draw, f__law_pick := f__law_pick, d__law_pick := PySem.W.fnOf "_law_pick" "_law_pick" (defArgs s__law_pick) (defBody s__law_pick) (defScope s__law_pick) .none kV__law_pick dc__law_pick pm__law_pick an__law_pick cd__law_pick ct__law_pick, f__law_clause := f__law_clause, d__law_clause := PySem.W.fnOf "_law_clause" "_law_clause" (defArgs s__law_clause) (defBody s__law_clause) (defScope s__law_clause) .none kV__law_clause dc__law_clause pm__law_clause an__law_clause cd__law_clause ct__law_clause, f__law_text := f__law_text, d__law_text := PySem.W.fnOf "_law_text" "_law_text" (defArgs s__law_text) (defBody s__law_text) (defScope s__law_text) .none kV__law_text dc__law_text pm__law_text an__law_text cd__law_text ct__law_text, f__law_change_text := f__law_change_text, d__law_change_text := PySem.W.fnOf "_law_change_text" "_law_change_text" (defArgs s__law_change_text) (defBody s__law_change_text) (defScope s__law_change_text) .none kV__law_change_text dc__law_change_text pm__law_change_text an__law_change_text cd__law_change_text ct__law_change_text, f__law_made := f__law_made, d__law_made := PySem.W.fnOf "_law_made" "_law_made" (defArgs s__law_made) (defBody s__law_made) (defScope s__law_made) .none kV__law_made dc__law_made pm__law_made an__law_made cd__law_made ct__law_made, f__law_call := f__law_call, d__law_call := PySem.W.fnOf "_law_call" "_law_call" (defArgs s__law_call) (defBody s__law_call) (defScope s__law_call) .none kV__law_call dc__law_call pm__law_call an__law_call cd__law_call ct__law_call, f__law_heard := f__law_heard, d__law_heard := PySem.W.fnOf "_law_heard" "_law_heard" (defArgs s__law_heard) (defBody s__law_heard) (defScope s__law_heard) .none kV__law_heard dc__law_heard pm__law_heard an__law_heard cd__law_heard ct__law_heard, f__law_shown := f__law_shown, d__law_shown := PySem.W.fnOf "_law_shown" "_law_shown" (defArgs s__law_shown) (defBody s__law_shown) (defScope s__law_shown) .none kV__law_shown dc__law_shown pm__law_shown an__law_shown cd__law_shown ct__law_shown, f__law_is_clause := f__law_is_clause, d__law_is_clause := PySem.W.fnOf "_law_is_clause" "_law_is_clause" (defArgs s__law_is_clause) (defBody s__law_is_clause) (defScope s__law_is_clause) .none kV__law_is_clause dc__law_is_clause pm__law_is_clause an__law_is_clause cd__law_is_clause ct__law_is_clause, f__law_text_due := f__law_text_due, d__law_text_due := PySem.W.fnOf "_law_text_due" "_law_text_due" (defArgs s__law_text_due) (defBody s__law_text_due) (defScope s__law_text_due) .none kV__law_text_due dc__law_text_due pm__law_text_due an__law_text_due cd__law_text_due ct__law_text_due, f__law_bent := f__law_bent, d__law_bent := PySem.W.fnOf "_law_bent" "_law_bent" (defArgs s__law_bent) (defBody s__law_bent) (defScope s__law_bent) .none kV__law_bent dc__law_bent pm__law_bent an__law_bent cd__law_bent ct__law_bent, f__law_made_right := f__law_made_right, d__law_made_right := PySem.W.fnOf "_law_made_right" "_law_made_right" (defArgs s__law_made_right) (defBody s__law_made_right) (defScope s__law_made_right) .none kV__law_made_right dc__law_made_right pm__law_made_right an__law_made_right (.ref cM) ct__law_made_right, f__law_joined_right := f__law_joined_right, d__law_joined_right := PySem.W.fnOf "_law_joined_right" "_law_joined_right" (defArgs s__law_joined_right) (defBody s__law_joined_right) (defScope s__law_joined_right) .none kV__law_joined_right dc__law_joined_right pm__law_joined_right an__law_joined_right (.ref cJ) ct__law_joined_right, f_Clause := f_Clause, f_ClauseD_initD := f_ClauseD_initD, d_ClauseD_initD := PySem.W.fnOf "__init__" "Clause.__init__" (defArgs s_ClauseD_initD) (defBody s_ClauseD_initD) (defScope s_ClauseD_initD) .none kV_ClauseD_initD dc_ClauseD_initD pm_ClauseD_initD an_ClauseD_initD cd_ClauseD_initD ct_ClauseD_initD, f_Clause_who := f_Clause_who, d_Clause_who := PySem.W.fnOf "who" "Clause.who" (defArgs s_Clause_who) (defBody s_Clause_who) (defScope s_Clause_who) .none kV_Clause_who dc_Clause_who pm_Clause_who an_Clause_who cd_Clause_who ct_Clause_who, p_Clause_who := p_Clause_who, f_Clause_sign := f_Clause_sign, d_Clause_sign := PySem.W.fnOf "sign" "Clause.sign" (defArgs s_Clause_sign) (defBody s_Clause_sign) (defScope s_Clause_sign) .none kV_Clause_sign dc_Clause_sign pm_Clause_sign an_Clause_sign cd_Clause_sign ct_Clause_sign, p_Clause_sign := p_Clause_sign, f_Clause_what := f_Clause_what, d_Clause_what := PySem.W.fnOf "what" "Clause.what" (defArgs s_Clause_what) (defBody s_Clause_what) (defScope s_Clause_what) .none kV_Clause_what dc_Clause_what pm_Clause_what an_Clause_what cd_Clause_what ct_Clause_what, p_Clause_what := p_Clause_what, f_ClauseD_strD := f_ClauseD_strD, d_ClauseD_strD := PySem.W.fnOf "__str__" "Clause.__str__" (defArgs s_ClauseD_strD) (defBody s_ClauseD_strD) (defScope s_ClauseD_strD) .none kV_ClauseD_strD dc_ClauseD_strD pm_ClauseD_strD an_ClauseD_strD cd_ClauseD_strD ct_ClauseD_strD, f_ClauseD_eqD := f_ClauseD_eqD, d_ClauseD_eqD := PySem.W.fnOf "__eq__" "Clause.__eq__" (defArgs s_ClauseD_eqD) (defBody s_ClauseD_eqD) (defScope s_ClauseD_eqD) .none kV_ClauseD_eqD dc_ClauseD_eqD pm_ClauseD_eqD an_ClauseD_eqD cd_ClauseD_eqD ct_ClauseD_eqD, f_Clause_read := f_Clause_read, d_Clause_read := PySem.W.fnOf "read" "Clause.read" (defArgs s_Clause_read) (defBody s_Clause_read) (defScope s_Clause_read) .none kV_Clause_read dc_Clause_read pm_Clause_read an_Clause_read cd_Clause_read ct_Clause_read, p_Clause_read := p_Clause_read, f_Change := f_Change, f_ChangeD_initD := f_ChangeD_initD, d_ChangeD_initD := PySem.W.fnOf "__init__" "Change.__init__" (defArgs s_ChangeD_initD) (defBody s_ChangeD_initD) (defScope s_ChangeD_initD) .none kV_ChangeD_initD dc_ChangeD_initD pm_ChangeD_initD an_ChangeD_initD cd_ChangeD_initD ct_ChangeD_initD, f_Change_clauses := f_Change_clauses, d_Change_clauses := PySem.W.fnOf "clauses" "Change.clauses" (defArgs s_Change_clauses) (defBody s_Change_clauses) (defScope s_Change_clauses) .none kV_Change_clauses dc_Change_clauses pm_Change_clauses an_Change_clauses cd_Change_clauses ct_Change_clauses, p_Change_clauses := p_Change_clauses, f_ChangeD_strD := f_ChangeD_strD, d_ChangeD_strD := PySem.W.fnOf "__str__" "Change.__str__" (defArgs s_ChangeD_strD) (defBody s_ChangeD_strD) (defScope s_ChangeD_strD) .none kV_ChangeD_strD dc_ChangeD_strD pm_ChangeD_strD an_ChangeD_strD cd_ChangeD_strD ct_ChangeD_strD, f_ChangeD_eqD := f_ChangeD_eqD, d_ChangeD_eqD := PySem.W.fnOf "__eq__" "Change.__eq__" (defArgs s_ChangeD_eqD) (defBody s_ChangeD_eqD) (defScope s_ChangeD_eqD) .none kV_ChangeD_eqD dc_ChangeD_eqD pm_ChangeD_eqD an_ChangeD_eqD cd_ChangeD_eqD ct_ChangeD_eqD, f_ChangeD_mulD := f_ChangeD_mulD, d_ChangeD_mulD := PySem.W.fnOf "__mul__" "Change.__mul__" (defArgs s_ChangeD_mulD) (defBody s_ChangeD_mulD) (defScope s_ChangeD_mulD) .none kV_ChangeD_mulD dc_ChangeD_mulD pm_ChangeD_mulD an_ChangeD_mulD cd_ChangeD_mulD ct_ChangeD_mulD, f_Change_read := f_Change_read, d_Change_read := PySem.W.fnOf "read" "Change.read" (defArgs s_Change_read) (defBody s_Change_read) (defScope s_Change_read) .none kV_Change_read dc_Change_read pm_Change_read an_Change_read cd_Change_read ct_Change_read, p_Change_read := p_Change_read, k_SIGNS := k_SIGNS, k_PATTERNS := k_PATTERNS, k_PARTS := k_PARTS, k_CLASSES := k_CLASSES, x_BadClause := x_BadClause, x_TooMany := x_TooMany, x_NoWay := x_NoWay, x_ModesError := x_ModesError, f_BadClauseD_initD := f_BadClauseD_initD, d_BadClauseD_initD := PySem.W.fnOf "__init__" "BadClause.__init__" (defArgs s_BadClauseD_initD) (defBody s_BadClauseD_initD) (defScope s_BadClauseD_initD) .none kV_BadClauseD_initD dc_BadClauseD_initD pm_BadClauseD_initD an_BadClauseD_initD cd_BadClauseD_initD ct_BadClauseD_initD, f_TooManyD_initD := f_TooManyD_initD, d_TooManyD_initD := PySem.W.fnOf "__init__" "TooMany.__init__" (defArgs s_TooManyD_initD) (defBody s_TooManyD_initD) (defScope s_TooManyD_initD) .none kV_TooManyD_initD dc_TooManyD_initD pm_TooManyD_initD an_TooManyD_initD cd_TooManyD_initD ct_TooManyD_initD, cA := cA, P0 := P0, cM := cM, PM := PM, cJ := cJ, PJ := PJ } K, fun p hp => ?_, fun p hp => ?_, fun p hp => ?_, fun s v => .of_eq rfl, fun H b ns hl hT hS => ⟨b, ns, rfl, hS, hl, hT (cA, P0) (List.mem_cons_self ..), hT (cM, PM) (List.mem_cons_of_mem _ (List.mem_cons_self ..)), hT (cJ, PJ) (List.mem_cons_of_mem _ (List.mem_cons_of_mem _ (List.mem_cons_self ..))), fun _ => rfl⟩, fun base _ _ TB => (ok_law T l_law co_law (TB (cA, P0) (List.mem_cons_self ..)) (TB (cM, PM) (List.mem_cons_of_mem _ (List.mem_cons_self ..))) (TB (cJ, PJ) (List.mem_cons_of_mem _ (List.mem_cons_of_mem _ (List.mem_cons_self ..))))).run callerA rfl ⟨rfl, by decide, by decide⟩⟩
  · simp only [List.mem_cons, List.not_mem_nil, or_false] at hp; rcases hp with rfl | rfl | rfl; exact tb_P0; exact tb_PM; exact tb_PJ
  · simp only [List.mem_cons, List.not_mem_nil, or_false] at hp; rcases hp with rfl | rfl | rfl; exact kl_P0; exact kl_PM; exact kl_PJ
  · simp only [List.mem_cons, List.not_mem_nil, or_false] at hp; rcases hp with rfl | rfl | rfl; exact ch_P0; exact ch_PM; exact ch_PJ
end KL
open PySem PySem.W PyProof.Rows
set_option maxRecDepth 100000 in
set_option maxHeartbeats 0 in
theorem PySem.Challenge.cw_modesdown_k08_changes_made_and_read_holds : PySem.Challenge.rw_modesdown_k08_changes_made_and_read.Holds := by
  w_on; o_law; k_head; (case hw => w_witness2)
  k_fill
  refine KD.walk_tabs (x := "_law_script") rfl rfl (fun w h Y => PySem.W.km_in_of Y) ?F
  case F =>
    intro w mg fa h Y kIn G hmg
    refine' KL.all_mk kIn G hmg ?z_isinstance ?z_int ?z_bool ?z_str ?z_sum ?z_tuple ?z_list ?z_len ?z_abs ?z_range ?z_enumerate ?z_repr ?z_zip ?a_is_choice ?l_is_choice ?co_is_choice ?kp_is_choice ?a_is_meant ?l_is_meant ?co_is_meant ?kp_is_meant ?a_pattern_behind ?l_pattern_behind ?co_pattern_behind ?kp_pattern_behind ?a_part_of ?l_part_of ?co_part_of ?kp_part_of ?a_in_turn ?l_in_turn ?co_in_turn ?kp_in_turn ?a_tables_of ?l_tables_of ?co_tables_of ?kp_tables_of ?a__law_pen ?l__law_pen ?co__law_pen ?kp__law_pen ?a__law_draw ?l__law_draw ?co__law_draw ?kp__law_draw ?a__law_pick ?l__law_pick ?co__law_pick ?kp__law_pick ?a__law_clause ?l__law_clause ?co__law_clause ?kp__law_clause ?a__law_text ?l__law_text ?co__law_text ?kp__law_text ?a__law_change_text ?l__law_change_text ?co__law_change_text ?kp__law_change_text ?a__law_made ?l__law_made ?co__law_made ?kp__law_made ?a__law_call ?l__law_call ?co__law_call ?kp__law_call ?a__law_heard ?l__law_heard ?co__law_heard ?kp__law_heard ?a__law_shown ?l__law_shown ?co__law_shown ?kp__law_shown ?a__law_is_clause ?l__law_is_clause ?co__law_is_clause ?kp__law_is_clause ?a__law_text_due ?l__law_text_due ?co__law_text_due ?kp__law_text_due ?a__law_bent ?l__law_bent ?co__law_bent ?kp__law_bent ?a__law_made_right ?l__law_made_right ?co__law_made_right ?kp__law_made_right ?a__law_joined_right ?l__law_joined_right ?co__law_joined_right ?kp__law_joined_right ?a_Clause ?pg_Clause ?hd_Clause ?po_Clause ?sa_Clause ?n_who_Clause ?n_sign_Clause ?n_what_Clause ?n_tables_Clause ?at_ClauseD_initD ?fi_ClauseD_initD ?l_ClauseD_initD ?co_ClauseD_initD ?kp_ClauseD_initD ?mk_Clause ?kc_Clause ?at_Clause_who ?ge_Clause_who ?ta_Clause_who ?rc_Clause_who ?l_Clause_who ?co_Clause_who ?kp_Clause_who ?at_Clause_sign ?ge_Clause_sign ?ta_Clause_sign ?rc_Clause_sign ?l_Clause_sign ?co_Clause_sign ?kp_Clause_sign ?at_Clause_what ?ge_Clause_what ?ta_Clause_what ?rc_Clause_what ?l_Clause_what ?co_Clause_what ?kp_Clause_what ?at_ClauseD_strD ?fi_ClauseD_strD ?l_ClauseD_strD ?co_ClauseD_strD ?kp_ClauseD_strD ?at_ClauseD_eqD ?fi_ClauseD_eqD ?l_ClauseD_eqD ?co_ClauseD_eqD ?kp_ClauseD_eqD ?at_Clause_read ?rc_Clause_read ?fm_Clause_read ?l_Clause_read ?co_Clause_read ?kp_Clause_read ?rd_Clause ?ga_Clause ?ia_Clause ?im_Clause ?ci_Clause ?ti_Clause ?sn_Clause_str ?nf_Clause_str ?sn_Clause_tuple ?nf_Clause_tuple ?sn_Clause_int ?nf_Clause_int ?sn_Clause_NoneType ?nf_Clause_NoneType ?sn_Clause_list ?nf_Clause_list ?sn_Clause_dict ?nf_Clause_dict ?sn_Clause_bool ?nf_Clause_bool ?en_Clause ?a_Change ?pg_Change ?hd_Change ?po_Change ?sa_Change ?n_clauses_Change ?n_tables_Change ?at_ChangeD_initD ?fi_ChangeD_initD ?l_ChangeD_initD ?co_ChangeD_initD ?kp_ChangeD_initD ?mk_Change ?kc_Change ?at_Change_clauses ?ge_Change_clauses ?ta_Change_clauses ?rc_Change_clauses ?l_Change_clauses ?co_Change_clauses ?kp_Change_clauses ?at_ChangeD_strD ?fi_ChangeD_strD ?l_ChangeD_strD ?co_ChangeD_strD ?kp_ChangeD_strD ?at_ChangeD_eqD ?fi_ChangeD_eqD ?l_ChangeD_eqD ?co_ChangeD_eqD ?kp_ChangeD_eqD ?at_ChangeD_mulD ?fi_ChangeD_mulD ?l_ChangeD_mulD ?co_ChangeD_mulD ?kp_ChangeD_mulD ?rd_Change ?ga_Change ?sf_Change ?cv_Change_MOST ?at_Change_read ?rc_Change_read ?fm_Change_read ?l_Change_read ?co_Change_read ?kp_Change_read ?ia_Change ?im_Change ?ci_Change ?ti_Change ?sn_Change_str ?nf_Change_str ?sn_Change_tuple ?nf_Change_tuple ?sn_Change_int ?nf_Change_int ?sn_Change_NoneType ?nf_Change_NoneType ?sn_Change_list ?nf_Change_list ?sn_Change_dict ?nf_Change_dict ?sn_Change_bool ?nf_Change_bool ?en_Change ?in0 ?it0 ?a_SIGNS ?lt_SIGNS ?sz_SIGNS ?vl_SIGNS ?a_PATTERNS ?lt_PATTERNS ?sz_PATTERNS ?vl_PATTERNS ?a_PARTS ?lt_PARTS ?sz_PARTS ?vl_PARTS ?lt_P1 ?sz_P1 ?vl_P1 ?lt_P2 ?sz_P2 ?vl_P2 ?lt_P3 ?sz_P3 ?vl_P3 ?lt_P4 ?sz_P4 ?vl_P4 ?a_CLASSES ?ld_CL ?kl_CL ?lw_CL ?eu_CL ?eg_CL ?eo_CL ?w0_CL ?w1_CL ?w2_CL ?w3_CL ?w4_CL ?w5_CL ?w6_CL ?w7_CL ?w8_CL ?w9_CL ?w10_CL ?w11_CL ?w12_CL ?w13_CL ?w14_CL ?w15_CL ?a_BadClause ?cix_BadClause ?tix_BadClause ?a_TooMany ?cix_TooMany ?tix_TooMany ?a_NoWay ?cix_NoWay ?tix_NoWay ?a_ModesError ?cix_ModesError ?tix_ModesError ?bex_ME ?xl_BadClause ?rf_BadClause ?sa_BadClause ?ex_BadClause ?kp_BadClause ?ga_BadClause ?gg_BadClause ?hd_BadClause ?cc_BadClause ?mr_BadClause ?np_BadClause ?in_BadClause ?ti_BadClauseD_initD ?l_BadClauseD_initD ?co_BadClauseD_initD ?kp_BadClauseD_initD ?suME_BadClause ?suX_BadClause ?xl_TooMany ?rf_TooMany ?sa_TooMany ?ex_TooMany ?kp_TooMany ?ga_TooMany ?gg_TooMany ?hd_TooMany ?cc_TooMany ?mr_TooMany ?np_TooMany ?in_TooMany ?ti_TooManyD_initD ?l_TooManyD_initD ?co_TooManyD_initD ?kp_TooManyD_initD ?suME_TooMany ?suX_TooMany ?suBT ?neBT ?suTN ?neTN ?mro_Change ?imF_Change ?imO ?a_law ?l_law ?co_law ?kp_law ?lc_P0 ?v11_P0 ?ch_P0 ?kl_P0 ?tb_P0 ?lc_PM ?v11_PM ?ch_PM ?kl_PM ?tb_PM ?lc_PJ ?v11_PJ ?ch_PJ ?kl_PJ ?tb_PJ ?ne_0M ?ne_0J ?ne_MJ
    (case z_isinstance => k_is)
    (case z_int => k_is)
    (case z_bool => k_is)
    (case z_str => k_is)
    (case z_sum => k_is)
    (case z_tuple => k_is)
    (case z_list => k_is)
    (case z_len => k_is)
    (case z_abs => k_is)
    (case z_range => k_is)
    (case z_enumerate => k_is)
    (case z_repr => k_is)
    (case z_zip => k_is)
    (case a_is_choice => k_is)
    (case l_is_choice => k_is)
    (case co_is_choice => k_is)
    (case kp_is_choice => k_is)
    (case a_is_meant => k_is)
    (case l_is_meant => k_is)
    (case co_is_meant => k_is)
    (case kp_is_meant => k_is)
    (case a_pattern_behind => k_is)
    (case l_pattern_behind => k_is)
    (case co_pattern_behind => k_is)
    (case kp_pattern_behind => k_is)
    (case a_part_of => k_is)
    (case l_part_of => k_is)
    (case co_part_of => k_is)
    (case kp_part_of => k_is)
    (case a_in_turn => k_is)
    (case l_in_turn => k_is)
    (case co_in_turn => k_is)
    (case kp_in_turn => k_is)
    (case a_tables_of => k_is)
    (case l_tables_of => k_is)
    (case co_tables_of => k_is)
    (case kp_tables_of => k_is)
    (case a__law_pen => k_is)
    (case l__law_pen => k_is)
    (case co__law_pen => k_is)
    (case kp__law_pen => k_is)
    (case a__law_draw => k_is)
    (case l__law_draw => k_is)
    (case co__law_draw => k_is)
    (case kp__law_draw => k_is)
    (case a__law_pick => k_is)
    (case l__law_pick => k_is)
    (case co__law_pick => k_is)
    (case kp__law_pick => k_is)
    (case a__law_clause => k_is)
    (case l__law_clause => k_is)
    (case co__law_clause => k_is)
    (case kp__law_clause => k_is)
    (case a__law_text => k_is)
    (case l__law_text => k_is)
    (case co__law_text => k_is)
    (case kp__law_text => k_is)
    (case a__law_change_text => k_is)
    (case l__law_change_text => k_is)
    (case co__law_change_text => k_is)
    (case kp__law_change_text => k_is)
    (case a__law_made => k_is)
    (case l__law_made => k_is)
    (case co__law_made => k_is)
    (case kp__law_made => k_is)
    (case a__law_call => k_is)
    (case l__law_call => k_is)
    (case co__law_call => k_is)
    (case kp__law_call => k_is)
    (case a__law_heard => k_is)
    (case l__law_heard => k_is)
    (case co__law_heard => k_is)
    (case kp__law_heard => k_is)
    (case a__law_shown => k_is)
    (case l__law_shown => k_is)
    (case co__law_shown => k_is)
    (case kp__law_shown => k_is)
    (case a__law_is_clause => k_is)
    (case l__law_is_clause => k_is)
    (case co__law_is_clause => k_is)
    (case kp__law_is_clause => k_is)
    (case a__law_text_due => k_is)
    (case l__law_text_due => k_is)
    (case co__law_text_due => k_is)
    (case kp__law_text_due => k_is)
    (case a__law_bent => k_is)
    (case l__law_bent => k_is)
    (case co__law_bent => k_is)
    (case kp__law_bent => k_is)
    (case a__law_made_right => k_is)
    (case l__law_made_right => k_is)
    (case co__law_made_right => k_is)
    (case kp__law_made_right => k_is)
    (case a__law_joined_right => k_is)
    (case l__law_joined_right => k_is)
    (case co__law_joined_right => k_is)
    (case kp__law_joined_right => k_is)
    (case a_Clause => k_is)
    (case pg_Clause => k_is)
    (case hd_Clause => k_is)
    (case po_Clause => k_is)
    (case sa_Clause => k_is)
    (case n_who_Clause => k_is)
    (case n_sign_Clause => k_is)
    (case n_what_Clause => k_is)
    (case n_tables_Clause => k_is)
    (case at_ClauseD_initD => k_is)
    (case fi_ClauseD_initD => k_is)
    (case l_ClauseD_initD => k_is)
    (case co_ClauseD_initD => k_is)
    (case kp_ClauseD_initD => k_is)
    (case mk_Clause => k_is)
    (case kc_Clause => k_is)
    (case at_Clause_who => k_is)
    (case ge_Clause_who => k_is)
    (case ta_Clause_who => k_is)
    (case rc_Clause_who => k_is)
    (case l_Clause_who => k_is)
    (case co_Clause_who => k_is)
    (case kp_Clause_who => k_is)
    (case at_Clause_sign => k_is)
    (case ge_Clause_sign => k_is)
    (case ta_Clause_sign => k_is)
    (case rc_Clause_sign => k_is)
    (case l_Clause_sign => k_is)
    (case co_Clause_sign => k_is)
    (case kp_Clause_sign => k_is)
    (case at_Clause_what => k_is)
    (case ge_Clause_what => k_is)
    (case ta_Clause_what => k_is)
    (case rc_Clause_what => k_is)
    (case l_Clause_what => k_is)
    (case co_Clause_what => k_is)
    (case kp_Clause_what => k_is)
    (case at_ClauseD_strD => k_is)
    (case fi_ClauseD_strD => k_is)
    (case l_ClauseD_strD => k_is)
    (case co_ClauseD_strD => k_is)
    (case kp_ClauseD_strD => k_is)
    (case at_ClauseD_eqD => k_is)
    (case fi_ClauseD_eqD => k_is)
    (case l_ClauseD_eqD => k_is)
    (case co_ClauseD_eqD => k_is)
    (case kp_ClauseD_eqD => k_is)
    (case at_Clause_read => k_is)
    (case rc_Clause_read => k_is)
    (case fm_Clause_read => k_is)
    (case l_Clause_read => k_is)
    (case co_Clause_read => k_is)
    (case kp_Clause_read => k_is)
    (case rd_Clause => k_is)
    (case ga_Clause => k_is)
    (case ia_Clause => k_is)
    (case im_Clause => k_is)
    (case ci_Clause => k_is)
    (case ti_Clause => k_is)
    (case sn_Clause_str => k_is)
    (case nf_Clause_str => k_is)
    (case sn_Clause_tuple => k_is)
    (case nf_Clause_tuple => k_is)
    (case sn_Clause_int => k_is)
    (case nf_Clause_int => k_is)
    (case sn_Clause_NoneType => k_is)
    (case nf_Clause_NoneType => k_is)
    (case sn_Clause_list => k_is)
    (case nf_Clause_list => k_is)
    (case sn_Clause_dict => k_is)
    (case nf_Clause_dict => k_is)
    (case sn_Clause_bool => k_is)
    (case nf_Clause_bool => k_is)
    (case en_Clause => k_is)
    (case a_Change => k_is)
    (case pg_Change => k_is)
    (case hd_Change => k_is)
    (case po_Change => k_is)
    (case sa_Change => k_is)
    (case n_clauses_Change => k_is)
    (case n_tables_Change => k_is)
    (case at_ChangeD_initD => k_is)
    (case fi_ChangeD_initD => k_is)
    (case l_ChangeD_initD => k_is)
    (case co_ChangeD_initD => k_is)
    (case kp_ChangeD_initD => k_is)
    (case mk_Change => k_is)
    (case kc_Change => k_is)
    (case at_Change_clauses => k_is)
    (case ge_Change_clauses => k_is)
    (case ta_Change_clauses => k_is)
    (case rc_Change_clauses => k_is)
    (case l_Change_clauses => k_is)
    (case co_Change_clauses => k_is)
    (case kp_Change_clauses => k_is)
    (case at_ChangeD_strD => k_is)
    (case fi_ChangeD_strD => k_is)
    (case l_ChangeD_strD => k_is)
    (case co_ChangeD_strD => k_is)
    (case kp_ChangeD_strD => k_is)
    (case at_ChangeD_eqD => k_is)
    (case fi_ChangeD_eqD => k_is)
    (case l_ChangeD_eqD => k_is)
    (case co_ChangeD_eqD => k_is)
    (case kp_ChangeD_eqD => k_is)
    (case at_ChangeD_mulD => k_is)
    (case fi_ChangeD_mulD => k_is)
    (case l_ChangeD_mulD => k_is)
    (case co_ChangeD_mulD => k_is)
    (case kp_ChangeD_mulD => k_is)
    (case rd_Change => k_is)
    (case ga_Change => k_is)
    (case sf_Change => k_is)
    (case cv_Change_MOST => k_is)
    (case at_Change_read => k_is)
    (case rc_Change_read => k_is)
    (case fm_Change_read => k_is)
    (case l_Change_read => k_is)
    (case co_Change_read => k_is)
    (case kp_Change_read => k_is)
    (case ia_Change => k_is)
    (case im_Change => k_is)
    (case ci_Change => k_is)
    (case ti_Change => k_is)
    (case sn_Change_str => k_is)
    (case nf_Change_str => k_is)
    (case sn_Change_tuple => k_is)
    (case nf_Change_tuple => k_is)
    (case sn_Change_int => k_is)
    (case nf_Change_int => k_is)
    (case sn_Change_NoneType => k_is)
    (case nf_Change_NoneType => k_is)
    (case sn_Change_list => k_is)
    (case nf_Change_list => k_is)
    (case sn_Change_dict => k_is)
    (case nf_Change_dict => k_is)
    (case sn_Change_bool => k_is)
    (case nf_Change_bool => k_is)
    (case en_Change => k_is)
    (case in0 => k_is)
    (case it0 => k_is)
    (case a_SIGNS => k_is)
    (case lt_SIGNS => k_is)
    (case sz_SIGNS => (exact Nat.le_of_lt (L2.small1000 (by decide))))
    (case vl_SIGNS => exact (.cons ⟨_, rfl⟩ (.cons ⟨_, rfl⟩ (.cons ⟨_, rfl⟩ .nil))))
    (case a_PATTERNS => k_is)
    (case lt_PATTERNS => k_is)
    (case sz_PATTERNS => (exact Nat.le_of_lt (L2.small1000 (by decide))))
    (case vl_PATTERNS => exact (.cons ⟨_, rfl⟩ (.cons ⟨_, rfl⟩ (.cons ⟨_, rfl⟩ (.cons ⟨_, rfl⟩ (.cons ⟨_, rfl⟩ (.cons ⟨_, rfl⟩ (.cons ⟨_, rfl⟩ (.cons ⟨_, rfl⟩ .nil)))))))))
    (case a_PARTS => k_is)
    (case lt_PARTS => k_is)
    (case sz_PARTS => (exact Nat.le_of_lt (L2.small1000 (by decide))))
    (case vl_PARTS => exact (.cons rfl (.cons rfl (.cons rfl (.cons rfl .nil)))))
    (case lt_P1 => k_is)
    (case sz_P1 => (exact Nat.le_of_lt (L2.small1000 (by decide))))
    (case vl_P1 => exact (.cons ⟨_, rfl⟩ (.cons ⟨_, rfl⟩ .nil)))
    (case lt_P2 => k_is)
    (case sz_P2 => (exact Nat.le_of_lt (L2.small1000 (by decide))))
    (case vl_P2 => exact (.cons ⟨_, rfl⟩ (.cons ⟨_, rfl⟩ .nil)))
    (case lt_P3 => k_is)
    (case sz_P3 => (exact Nat.le_of_lt (L2.small1000 (by decide))))
    (case vl_P3 => exact (.cons ⟨_, rfl⟩ (.cons ⟨_, rfl⟩ .nil)))
    (case lt_P4 => k_is)
    (case sz_P4 => (exact Nat.le_of_lt (L2.small1000 (by decide))))
    (case vl_P4 => exact (.cons ⟨_, rfl⟩ (.cons ⟨_, rfl⟩ .nil)))
    (case a_CLASSES => k_is)
    (case ld_CL => k_is)
    (case kl_CL => k_keys)
    (case lw_CL => decide)
    (case eu_CL => k_is)
    (case eg_CL => k_is)
    (case eo_CL => k_is)
    (case w0_CL => k_is)
    (case w1_CL => k_is)
    (case w2_CL => k_is)
    (case w3_CL => k_is)
    (case w4_CL => k_is)
    (case w5_CL => k_is)
    (case w6_CL => k_is)
    (case w7_CL => k_is)
    (case w8_CL => k_is)
    (case w9_CL => k_is)
    (case w10_CL => k_is)
    (case w11_CL => k_is)
    (case w12_CL => k_is)
    (case w13_CL => k_is)
    (case w14_CL => k_is)
    (case w15_CL => k_is)
    (case a_BadClause => k_is)
    (case cix_BadClause => k_is)
    (case tix_BadClause => k_is)
    (case a_TooMany => k_is)
    (case cix_TooMany => k_is)
    (case tix_TooMany => k_is)
    (case a_NoWay => k_is)
    (case cix_NoWay => k_is)
    (case tix_NoWay => k_is)
    (case a_ModesError => k_is)
    (case cix_ModesError => k_is)
    (case tix_ModesError => k_is)
    (case bex_ME => k_is)
    (case xl_BadClause => k_is)
    (case rf_BadClause => decide +kernel)
    (case sa_BadClause => k_is)
    (case ex_BadClause => k_is)
    (case kp_BadClause => k_is)
    (case ga_BadClause => k_is)
    (case gg_BadClause => k_is)
    (case hd_BadClause => k_is)
    (case cc_BadClause => k_is)
    (case mr_BadClause => k_is)
    (case np_BadClause => k_is)
    (case in_BadClause => k_is)
    (case ti_BadClauseD_initD => k_is)
    (case l_BadClauseD_initD => k_is)
    (case co_BadClauseD_initD => k_is)
    (case kp_BadClauseD_initD => k_is)
    (case suME_BadClause => k_is)
    (case suX_BadClause => k_is)
    (case xl_TooMany => k_is)
    (case rf_TooMany => decide +kernel)
    (case sa_TooMany => k_is)
    (case ex_TooMany => k_is)
    (case kp_TooMany => k_is)
    (case ga_TooMany => k_is)
    (case gg_TooMany => k_is)
    (case hd_TooMany => k_is)
    (case cc_TooMany => k_is)
    (case mr_TooMany => k_is)
    (case np_TooMany => k_is)
    (case in_TooMany => k_is)
    (case ti_TooManyD_initD => k_is)
    (case l_TooManyD_initD => k_is)
    (case co_TooManyD_initD => k_is)
    (case kp_TooManyD_initD => k_is)
    (case suME_TooMany => k_is)
    (case suX_TooMany => k_is)
    (case suBT => k_is)
    (case neBT => decide)
    (case suTN => k_is)
    (case neTN => decide)
    (case mro_Change => rfl)
    (case imF_Change => k_is)
    (case imO => k_is)
    (case a_law => k_is)
    (case l_law => k_is)
    (case co_law => k_is)
    (case kp_law => k_is)
    (case lc_P0 => k_is)
    (case v11_P0 => rfl)
    (case ch_P0 => kernel_rfl)
    (case kl_P0 => first | k_is | kernel_rfl)
    (case tb_P0 => exact PySem.W.km_tabs_of Y _ (by k_mem))
    (case lc_PM => k_is)
    (case v11_PM => rfl)
    (case ch_PM => kernel_rfl)
    (case kl_PM => first | k_is | kernel_rfl)
    (case tb_PM => exact PySem.W.km_tabs_of Y _ (by k_mem))
    (case lc_PJ => k_is)
    (case v11_PJ => rfl)
    (case ch_PJ => kernel_rfl)
    (case kl_PJ => first | k_is | kernel_rfl)
    (case tb_PJ => exact PySem.W.km_tabs_of Y _ (by k_mem))
    (case ne_0M => decide)
    (case ne_0J => decide)
    (case ne_MJ => decide)
