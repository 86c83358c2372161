import PyProof.Rows.All
import HandS.MethStar
import HandS.SlotsOwn
import HandS.Star
import HandS.More
import HandS.IsInst
import KE.KCallOwn
import KE.KxField
import HandS.FStr
import PyProof.Rows.StrIntSpec
import PyProof.FString3
import PyProof.FactsAll.int_2
import KE.KxWritten
import HandS.Lambda
import HandS.Codes
import HandS.Words
import HandS.EndTab
import HandS.EndBits
import HandS.NestedK
import KE.KNestM
import PyProof.ReprRoads
import HandS.Evl
import HandS.ExcInit
import HandS.ExcIs
import HandS.ExcCtx
import HandS.SuiteRaise
import KE.KExcIs
import Wide.All
import OpenK.AllK
import Wide.FinOn
import HandS.ForMost
import HandS.Property
import HandS.ClsMeth
import HandS.Conv
import HandS.Wide
import HandS.WideBits
import HandS.Flow
import HandS.Zip
import HandS.Strs
import KE.GoesEnum
import HandS.WordsExc
import HandS.TupAny
import HandS.OwnEq
import HandS.Deep
import HandS.TupLen
import HandS.MakeKwOnly
import KE.KDictKeyed
import KE.KTupSum
import PyProof.SumAnyB
import PyProof.EnumMake
import PyProof.EqKinds
import HandS.NoneIn
import PyProof.ReprLen
import HandS.SetKeys
import PyProof.Rows.SetFrom
import PyProof.TupleIter
import PyProof.TupleOfSeq
import PyProof.EqAt
import PyProof.NeKinds
import HandS.Nested
import HandS.Rev
import HandS.Defaults
import HandS.Style
import HandS.RaiseMore
import HandS.MakeKw

import PySem.Challenge.RW_modesdown_k34_lines_made

set_option Elab.async false
set_option linter.all false
set_option maxRecDepth 100000
set_option maxHeartbeats 4000000
namespace KD
open PySem PySem.Spec PyProof.Rows L2
section
open PySem.W PySem.Calls Builtin
variable {prog : Program} {w : World} {A : Around} {E : Value → Shared → Prop} {s : Shared} {K : Frag} {x C L f : Addr} {h₀ : Heap} {m : Str → Option Value} {ox : Obj} {od : Option Obj}
theorem bool_own {Q : Value → Shared → Prop} (F : Fr h₀ L s.heap m) (X₀ : K.In h₀) (I : InstAt s.heap x ox C od) (hs : findIn K (.ref C) "__bool__" = some (some (.ref f))) (hf : isFn K (.ref f) = true)
    (h : wpAny (model prog w) A.in1.in1 (call (.ref f) [.ref x]) (PySem.W.BoolBack fun b s' => Q (.bool b) s') E s) : wpAny (model prog w) A (call (.type "bool") [.ref x]) Q E s := by
  refine callType_codes (T := "bool") (Bi := Builtin.«object.__init__») (Q₁ := fun r s₁ => ∃ b, r = .bool b ∧ Q r s₁) PySem.F.called_bool (PySem.F.typeCall_bool_1 _) PySem.F.entry_object_init ?_ ?_
  · refine codeAny_of_tree ?_
    show wpAny _ A.in1.in1 (do checkBuiltinCall "bool.__new__" ⟨[.type "bool", .ref x], []⟩; again (.builtin "bool.__new__" ⟨[.type "bool", .ref x], []⟩)) _ _ s
    refine wpAny_bind (wpAny_of_eq (PySem.F.newCall_bool_1 _) (wpAny_pure ⟨plainId_quiet (by decide +kernel) _, codeAny_builtin PySem.F.entry_bool_new ?_⟩))
    rw [Around.under_plainId (by decide +kernel) _]
    unfold Builtin.«bool.__new__»
    refine wpAny_bind (m := isType _) (wpAny_pure ?_)
    refine wpAny_bind (wpAny_of_eq PySem.F.conv_sub_bool ?_)
    refine wpAny_bind (m := someArgs _ _ _ _) (wpAny_pure ?_)
    refine wpAny_bind (truthy_K F X₀ I hs hf (wpAny_mono h (fun r s₁ hr => ?_) fun _ _ y => y))
    cases r <;> first | exact hr.elim | exact wpAny_pure ⟨_, rfl, hr⟩
  · rintro obj s₁ ⟨b, rfl, hq⟩
    exact ⟨PySem.typeIs_bool _ _, PySem.F.args_object_init_2 _ _, object_init_meets PySem.F.called_bool.init.lookup PySem.F.called_bool.made (by decide) prog w A.in1 _ s₁ ⟨PySem.typeIs_bool _ _, rfl, hq⟩⟩
end
section
variable {X : Cx} {CX : CXT} {C g : Addr} {n : Nat} {sp : Sp} {E : XK}
/-- repr, len, bool of an own instance -/
def rReprOwn (C : Addr) (sp : Sp) (E : XK) : List V → Hp → VK → Prop := fun xs H Q => ∃ a dx fs, xs = [V.ref a] ∧ H a = some (.ins C dx fs) ∧ sp [.ref a] H (fun z H' => ∃ s, z = .str s ∧ Q z H') E
def rLenOwn (C : Addr) (sp : Sp) (E : XK) : List V → Hp → VK → Prop := fun xs H Q => ∃ a dx fs, xs = [V.ref a] ∧ H a = some (.ins C dx fs) ∧ sp [.ref a] H (fun z H' => ∃ n : Int, z = .int n ∧ 0 ≤ n ∧ n < 2 ^ 63 ∧ Q z H') E
def rBoolOwn (C : Addr) (sp : Sp) (E : XK) : List V → Hp → VK → Prop := fun xs H Q => ∃ a dx fs, xs = [V.ref a] ∧ H a = some (.ins C dx fs) ∧ sp [.ref a] H (fun z H' => ∃ b, z = .bl b ∧ Q z H') E
theorem call_reprOwn (hs : PySem.W.findIn X.K (.ref C) "__repr__" = some (some (.ref g))) (hf : PySem.W.isFn X.K (.ref g) = true) (F : FnR X.prog X.w X.K X.mg X.base CX n g sp) (hr : Room (n + 1) X.A) (hx : Passes CX X E) : CallR X (.builtin "repr") (rReprOwn C sp E) := by
  intro pins s σ H xs us Q I r start
  obtain ⟨a, dx, fs, rfl, hsl, q⟩ := start
  obtain ⟨u, rfl, ru⟩ := r.one
  obtain rfl : u = Value.ref a := ru
  obtain ⟨ox, od, J, _⟩ := StX.insC_at (X := X) I (.inr ⟨dx, fs, hsl⟩)
  have low : Room n X.A.in1 := Room.in1 hr
  obtain ⟨m, hF⟩ := I.fr
  refine PySem.W.repr_K low.units0 hF I.ok.mod.kin J hs hf (wpAny_mono (wpAny_call (SlX.run_at (us := [.ref a]) (ws := [.ref a]) F low I.env0.in1 hx I (.cons rfl .nil) q)) (fun w s' z => ?_) fun _ _ x => x)
  obtain ⟨z', H', I', rz, s2, ei, qz⟩ := z
  subst ei
  obtain ⟨t, e⟩ := (show ∃ t, w = Value.str s2 t from rz)
  cases e
  exact ⟨.str s2, H', I', ⟨t, rfl⟩, qz⟩
theorem call_lenOwn (hs : PySem.W.findIn X.K (.ref C) "__len__" = some (some (.ref g))) (hf : PySem.W.isFn X.K (.ref g) = true) (F : FnR X.prog X.w X.K X.mg X.base CX n g sp) (hr : Room (n + 1) X.A) (hx : Passes CX X E) : CallR X (.builtin "len") (rLenOwn C sp E) := by
  intro pins s σ H xs us Q I r start
  obtain ⟨a, dx, fs, rfl, hsl, q⟩ := start
  obtain ⟨u, rfl, ru⟩ := r.one
  obtain rfl : u = Value.ref a := ru
  obtain ⟨ox, od, J, _⟩ := StX.insC_at (X := X) I (.inr ⟨dx, fs, hsl⟩)
  have low : Room n X.A.in1 := Room.in1 hr
  obtain ⟨m, hF⟩ := I.fr
  refine PySem.W.len_K hF I.ok.mod.kin J hs hf (wpAny_mono (wpAny_call (SlX.run_at (us := [.ref a]) (ws := [.ref a]) F low I.env0.in1 hx I (.cons rfl .nil) q)) (fun w s' z => ?_) fun _ _ x => x)
  obtain ⟨z', H', I', rz, i, ei, h0, h1, qz⟩ := z
  subst ei
  obtain ⟨t, e⟩ := (show ∃ t, w = Value.int i t from rz)
  cases e
  exact ⟨⟨h0, h1⟩, .int i, H', I'.tok _, ⟨_, rfl⟩, qz⟩
theorem call_boolOwn (hs : PySem.W.findIn X.K (.ref C) "__bool__" = some (some (.ref g))) (hf : PySem.W.isFn X.K (.ref g) = true) (F : FnR X.prog X.w X.K X.mg X.base CX n g sp) (hr : Room (n + 2) X.A) (hx : Passes CX X E) : CallR X (.type "bool") (rBoolOwn C sp E) := by
  intro pins s σ H xs us Q I r start
  obtain ⟨a, dx, fs, rfl, hsl, q⟩ := start
  obtain ⟨u, rfl, ru⟩ := r.one
  obtain rfl : u = Value.ref a := ru
  obtain ⟨ox, od, J, _⟩ := StX.insC_at (X := X) I (.inr ⟨dx, fs, hsl⟩)
  have low : Room (n + 1) X.A.in1 := Room.in1 hr
  have hr2 : Room n X.A.in1.in1 := low.in1
  obtain ⟨m, hF⟩ := I.fr
  refine bool_own hF I.ok.mod.kin J hs hf (wpAny_mono (wpAny_call (SlX.run_at (us := [.ref a]) (ws := [.ref a]) F hr2 I.env0.in1.in1 hx I (.cons rfl .nil) q)) (fun w s' z => ?_) fun _ _ x => x)
  obtain ⟨z', H', I', rz, b, ei, qz⟩ := z
  subst ei
  obtain rfl : w = Value.bool b := rz
  exact ⟨.bl b, H', I', rfl, qz⟩
end
end KD
set_option Elab.async false
set_option linter.all false
set_option maxRecDepth 100000
set_option maxHeartbeats 4000000
namespace KD
open PySem PySem.Spec PyProof.Rows L2
section
open PySem.W Builtin Builtin.Str Builtin.Int Builtin.Float PySem.Calls
def spec8 : Str := "03o"
def f8 : FormatSpec := { fill := 48, align := 61, width := some 3, type := some 111 }
def octS (n : Nat) : Str := intField' f8 false [] ((Nat.toDigits 8 n).map fun c => (if (111 : Nat) == 88 then c.toUpper else c).toNat) [] 4
theorem f8_is : parseFormatSpec spec8.cps.toList "int" 62 = .ok f8 := by kernel_rfl
theorem f8_ty : f8.type = some 111 ∧ f8.precision.isSome = false ∧ f8.noNeg0 = false ∧ f8.alt = false ∧ (decide (f8.width.getD 0 > 100000)) = false := by decide +kernel
theorem s8_asc : ((spec8.cps.toList.drop 1).any (· ≥ 128) || (spec8.cps.getD 0 0 ≥ 128 && !([60, 62, 61, 94] : List Nat).contains (spec8.cps.getD 1 0))) = false := by decide +kernel
theorem s8_ne : (spec8.length == 0) = false := by decide +kernel
theorem oct_len : ∀ n : Nat, n < 512 → (octS n).length = 3 := by
  have h : ((List.range 512).all fun n => decide ((octS n).length = 3)) = true := by decide +kernel
  exact fun n hn => of_decide_eq_true (List.all_eq_true.mp h n (List.mem_range.mpr hn))
variable {prog : Program} {w : World} {A : Around} {E : Value → Shared → Prop} {s : Shared}
theorem field_oct {n : Nat} {t : Tok} {Q : Value → Shared → Prop} (hn : n < 512) (h : ∀ t' k, Q (.str (octS n) t') { s with toks := k }) : wpAny (model prog w) A (formatField (.int (n : Nat) t) spec8) Q E s := by
  obtain ⟨h1, h2, h3, h4, h5⟩ := f8_ty
  show wpAny _ _ (holding [.int (n : Nat) t] (pyFormat (.int (n : Nat) t) spec8)) Q E s
  refine wpAny_holding ?_
  unfold pyFormat
  refine wpAny_bind (wpAny_mkStr ?_ (by show 3 ≤ sizeLine; decide))
  refine wpAny_bind (m := callSpecial? (.int (n : Nat) t) (Str.ofString "__format__") [.str spec8 s.toks]) (wpAny_callSpecial?_slot (name := Str.ofString "__format__") (PySem.typeIs_int _ _ t) PySem.F.slot_int_format ?_)
  refine wpAny_call (codeAny_call_builtin PySem.F.slot_int_format.plain PySem.F.entry_int_format (PySem.F.slot_int_format.check _ _ _ _ _ _ _ _ (PySem.typeIs_int _ _ t) (PySem.F.args_int_format_2 _ _) ?_))
  unfold Builtin.«int.__format__»
  simp only [selfAndOne, noKeywords, Int.intOfSelf, asInt?, asStr?, List.isEmpty_nil, if_true, pure_bind, bind_pure, bind_assoc, s8_ne, s8_asc, Bool.false_eq_true, if_false,
    show (Value.str spec8 s.toks == Value.none) = false from rfl]
  refine wpAny_bind (wpAny_typeNameOf (T := "str") (PySem.typeIs_str _ _ _) (by decide) fun _ => ?_)
  refine wpAny_bind (wpAny_typeNameOfCut_int ?_)
  simp only [f8_is, h1, Option.getD_some]
  rw [if_pos (by decide)]
  obtain ⟨f, hf⟩ : ∃ f, f = f8 := ⟨_, rfl⟩
  rw [← hf] at h2 h3 h4 h5 ⊢
  show wpAny _ _ (if _ then _ else _) _ _ _
  rw [if_neg (by rw [h2]; decide)]
  show wpAny _ _ (if _ then _ else _) _ _ _
  rw [if_neg (by rw [h3]; decide)]
  show wpAny _ _ (if _ then _ else _) _ _ _
  rw [if_neg (by decide)]
  show wpAny _ _ (if _ then _ else _) _ _ _
  rw [if_neg (by decide)]
  show wpAny _ _ (if _ then _ else _) _ _ _
  rw [if_neg (of_decide_eq_false h5)]
  show wpAny _ _ (retStr _) _ _ _
  subst hf
  refine KXf.ret_text (T := octS n) ?_ ?_ fun t' k => ?_
  · rw [decide_eq_false (show ¬ (n : Int) < 0 by omega)]
    rfl
  · rw [decide_eq_false (show ¬ (n : Int) < 0 by omega)]
    exact Nat.le_trans (Nat.le_of_eq (oct_len n hn)) (by decide)
  · exact wpAny_bind (wpAny_isInstance (PySem.typeIs_str _ _ _) isSubtype_str_str (wpAny_pure (h _ _)))
end
section
variable {X : Cx}
def tOct (te : TE) : TE := fun σ H Q => te σ H fun x H1 => ∃ n : Nat, x = .int (n : Nat) ∧ n < 512 ∧ Q (.str (octS n)) H1
theorem pe_fmt8 {e : Expr} {te : TE} {pos p1 p2 : Pos} {k : Nat} (he : PE X e te) : PE X (.FormattedValue e (-1) (some (.JoinedStr [.Constant (.str "03o") k p1] p2)) pos) (tOct te) := by
  refine ⟨fun pins s σ H Q I h => ?_⟩
  refine wpAny_FormattedValue_spec (thn (he.run pins s σ H _ I h) fun v s1 ⟨x, H1, I1, r1, n, ex, hn, q⟩ => ?_)
  subst ex
  obtain ⟨t, rfl⟩ := r1
  have hs : PE X (.JoinedStr [.Constant (.str "03o") k p1] p2) (tC (.str "03o")) := pe_joined1 pe_str
  refine thn (hs.run pins s1 σ H1 (fun y H2 => y = .str "03o" ∧ H2 = H1) I1 ⟨rfl, rfl⟩) fun r s2 ⟨y, H2, I2, ry, ey, eH⟩ => ?_
  subst ey eH
  obtain ⟨t2, rfl⟩ := ry
  exact ⟨_, t2, rfl, field_oct hn fun t' k => ⟨.str (octS n), H2, I2.tok _, ⟨_, rfl⟩, q⟩⟩
/-- x op y, x an own instance -/
def rOwnB (K : PySem.W.Frag) (C : Addr) (sp : Sp) (E : XK) : R2 := fun x y H Q => ∃ (p dx : Addr) (fs : List (Str × V)) (t : Value), x = .ref p ∧ H p = some (.ins C dx fs) ∧ TyX K H y t ∧ PySem.W.notFirst K C t = true ∧ sp [x, y] H Q E
theorem op_ownB {CX : CXT} {C g : Addr} {n : Nat} {sp : Sp} {E : XK} {op : CmpOp} (hop : ∀ a b, compareOp op a b = richCompare op a b) (hs : PySem.W.findIn X.K (.ref C) (cmpInfo op).2.1 = some (some (.ref g))) (hf : PySem.W.isFn X.K (.ref g) = true)
    (F : FnR X.prog X.w X.K X.mg X.base CX n g sp) (room : Room n X.A) (hx : Passes CX X E) : OpR X (compareOp op) (rOwnB X.K C sp E) := by
  intro pins s σ H x y v u Q I rx ry told
  obtain ⟨p, dx, fs, t, rfl, hp, ty, nf, want⟩ := told
  obtain rfl : v = Value.ref p := rx
  obtain ⟨o1, d1, J1, _⟩ := StX.insC_at (X := X) I (.inr ⟨dx, fs, hp⟩)
  obtain ⟨Pp, Z, hpp, _⟩ := kit_of I ry ty
  obtain ⟨m, hF⟩ := I.fr
  rw [hop]
  refine PySem.W.cmp_K (op := op) (tb := t) room.units0 hF I.ok.mod.kin J1 (Z.ty _ _ I.kIn hpp) nf hs hf (wpAny_mono (wpAny_call (run_fnR (us := [.ref p, u]) (vs := [.ref p, y]) F room hx I (.cons rfl (.cons ry .nil)) want)) (fun r s' got => ?_) fun _ _ same => same)
  obtain ⟨z, H', I', rz, end_⟩ := got
  exact SlX.cmpback rz ⟨z, H', I', rz, end_⟩
theorem mt_scount : MtR X "str.count" (fun x xs H Q => ∃ a b, x = .str a ∧ xs = [.str b] ∧ Q (.int (Txt.count a b)) H) := by
  intro pins s σ H x xs v us Q I rx rxs h
  obtain ⟨a, b, rfl, rfl, q⟩ := h
  obtain ⟨t, rfl⟩ := rx
  obtain ⟨u, rfl, ru⟩ := rxs.one
  obtain ⟨t2, rfl⟩ := ru
  exact PySem.W.KXw.count rfl fun t' k => ⟨.int _, H, I.tok _, ⟨_, rfl⟩, q⟩
end
end KD
set_option Elab.async false
set_option linter.all false
set_option maxRecDepth 100000
set_option maxHeartbeats 4000000
namespace KD
open PySem PySem.Spec PyProof.Rows L2 LamX
/-! ### defs that are run where no object is being shown -/
def RunAt (P : Program) (w : World) (K : PySem.W.Frag) (mg : Str → Option Value) (base : Heap) (A : Around) (f : Addr) (fd : FuncData) (ps : List Str) (sp : Sp) : Prop :=
  ∀ (outer : List Env) (s : Shared) (H : Hp) (args : Args) (us : List Value) (vs : List V) (Q : VK) (E : XK), Env0 P w K mg base A outer s H → BindsTo s fd args (ps.zip us) → Vals vs us → sp vs H Q E →
    codeAny (model P w) A (.call (.ref f) args) (CR CX0 outer P w H s Q E) s
structure FnG (P : Program) (w : World) (K : PySem.W.Frag) (mg : Str → Option Value) (base : Heap) (k : Nat) (f : Addr) (fd : FuncData) (ps : List Str) (sp : Sp) : Prop where
  len : ∀ vs H Q E, sp vs H Q E → vs.length = ps.length
  run : ∀ A : Around, A.guards = some [] → Room k A → RunAt P w K mg base A f fd ps sp
theorem fnG_of {P : Program} {w : World} {K : PySem.W.Frag} {mg : Str → Option Value} {base : Heap} {k : Nat} {x qual : Str} {st : Stmt} {f : Addr} {oc kV doc pm cdv ct : Value} {an od : Option Addr} {osl : Array (Option Value)} {N ps : List Str} {sp : Sp}
    (at_ : K.lookup f = some ⟨oc, od, .func (PySem.W.fnOf x qual (defArgs st) (defBody st) (defScope st) .none kV doc pm an cdv ct), osl⟩) (code : PySem.W.codeIn K cdv qual = true) (S : FnScope N ps (defScope st)) (len : ∀ vs H Q E, sp vs H Q E → vs.length = ps.length)
    (body : ∀ (A : Around) (outer : List Env) (s : Shared) (H : Hp) (vs : List V) (Q : VK) (E : XK), A.guards = some [] → Room k (A.deeper (envOfC qual (defScope st) s.heap.objs.size f cdv)) → sp vs H Q E →
      ∃ t, PSs (cxOf CX0 P w K mg base N qual (defScope st) f cdv A outer s H E).nox (defBody st) t ∧ t { nx := fun _ H' => Q .non H', rt := Q } (start N vs) H) :
    FnG P w K mg base (k + 1) f (PySem.W.fnOf x qual (defArgs st) (defBody st) (defScope st) .none kV doc pm an cdv ct) ps sp := by
  refine ⟨len, fun A gd room outer s H args us vs Q E e0 bind vals want => ?_⟩
  have many := len _ _ _ _ want
  have inK : K.In s.heap := e0.mod.kin.keeps fun b o q => (e0.bs b o q).1
  have free : s.heap.NoLimit := e0.mod.nolimit.keeps fun b o q => (e0.bs b o q).1
  have kinds : ∀ y ∈ ps.zip us, (defScope st).names.lookup y.1 = some .local ∨ ((defScope st).names.lookup y.1 = some .cell ∧ ((cellsFrom (s.heap.objs.size + 1) (defScope st).names []).lookup y.1).isSome = true) := fun y hy =>
    (S.par y.1 (List.of_mem_zip hy).1).imp id fun q => ⟨q, PySem.W.cellsFrom_some _ _ _ (.inl q)⟩
  refine codeAny_call_function room.depth (inK _ _ at_) rfl S.co S.gen rfl (PySem.W.codeRec_of inK code) (bind _ _ _ _ ?_)
  refine wpAny_newFunctionEnv_cells S.kind kinds fun env he s1 call => ?_
  subst he
  obtain ⟨t, does, reads⟩ := body A outer s H vs Q E gd (room.deeper _) want
  refine ⟨free.keeps call.toInCall.keep, codeAny_func (wpAny_mono (does.nox.run [] s1 (start N vs) H _ (inv_start S room.hd e0 many vals call) reads) (fun fl s' ends => ?_) fun _ _ q => q)⟩
  cases fl with
  | ret u => exact let ⟨v, σ', H', J, rv, q⟩ := ends; ⟨v, H', J.os, J.bare, J.base, J.hok, rv, q⟩
  | next => exact let ⟨σ', H', J, q⟩ := ends; ⟨.non, H', J.os, J.bare, J.base, J.hok, rfl, q⟩
  | brk => exact let ⟨_, _, _, q⟩ := ends; False.elim q
  | cont => exact let ⟨_, _, _, q⟩ := ends; False.elim q
section
variable {X : Cx} {k : Nat} {f : Addr} {fd : FuncData} {ps : List Str} {sp : Sp} {E : XK} {x : Str} {e : Expr} {es : List Expr} {t : TA} {p pos : Pos}
/-- a call of such a def, where no object is being shown -/
theorem pe_callG (F : FnG X.prog X.w X.K X.mg X.base k f fd ps sp) (gd : X.A.guards = some []) (room : Room k X.A) (hg : Gl X x) (hm : X.mg x = some (.ref f)) (kp : PySem.W.keepIn X.K (.ref f) = true) (hb : Binds X.K fd ps [])
    (ha : PA X (e :: es) t) (nodb : (x == ("__debug__" : Str)) = false := by decide) (flat : starEach (e :: es) X.env = (false, eval e X.env) :: starEach es X.env := by rfl) (plain : (backTo pos (starEach es X.env)).any (·.1) = false := by rfl) :
    PE X (.Call (.Name x p) (e :: es) [] pos) (tCall sp [] E t) := by
  refine ⟨fun pins s σ H Q I h => ?_⟩
  refine wpAny_Call_Name_kw (ld_glob I hg hm ?_ nodb)
  refine PySem.W.callWith_K (h₀ := X.base) I.ok.mod.kin kp (thn (ha.run pos pins s σ H _ I h) fun us s1 ⟨vs, H1, J, r, q⟩ => ⟨J.kIn, ?_⟩) flat plain
  have q : sp vs H1 Q E := by rw [← List.append_nil vs]; exact q
  have many : us.length = ps.length := by rw [← r.length]; exact F.len _ _ _ _ q
  have bind := hb s1 us J.kIn (by rw [List.append_nil]; exact many)
  rw [List.append_nil] at bind
  refine wpAny_call (codeAny_mono (F.run X.A gd room X.stack s1 H1 ⟨us, []⟩ us vs Q E J.env0 bind r q) fun r s' got => ?_)
  match r, got with
  | .error _, got => exact False.elim got
  | .ok (.ret _), got => exact J.after got
  | .ok .next, got => exact False.elim got
  | .ok .brk, got => exact False.elim got
  | .ok .cont, got => exact False.elim got
/-! repr of what can be read, where no object is being shown -/
inductive RepV (K : PySem.W.Frag) (H : Hp) : V → Str → Prop
  | int {i : Int} (h : i.natAbs.log2 < 1920) : RepV K H (.int i) (toString i)
  | non : RepV K H .non "None"
  | bl (b : Bool) : RepV K H (.bl b) (if b then "True" else "False")
  | str {z : Str} (h : (reprText z).length ≤ sizeLine) : RepV K H (.str z) (reprText z)
  | obj {p : Addr} {d : PyData} (hd : Dp K H (.ref p) d) (h1 : d.showable = true) (h2 : d.hasDict = false) (h3 : d.depth ≤ 60) (h4 : d.shown.length ≤ sizeLine) : RepV K H (.ref p) d.shown
def rReprV (K : PySem.W.Frag) : List V → Hp → VK → Prop := fun xs H Q => ∃ (x : V) (s : Str), xs = [x] ∧ RepV K H x s ∧ Q (.str s) H
theorem call_reprV (gd : X.A.guards = some []) (hu : X.A.units + 64 < cLine) : CallR X (.builtin "repr") (rReprV X.K) := by
  intro pins s σ H xs us Q I r start
  obtain ⟨v, z, rfl, rep, q⟩ := start
  obtain ⟨u, rfl, ru⟩ := r.one
  cases rep with
  | int h =>
    obtain ⟨t, rfl⟩ := ru
    exact PySem.P.repr_of_int h ⟨.str _, H, I.tok _, ⟨_, rfl⟩, q⟩
  | non =>
    obtain rfl : u = Value.none := ru
    exact PySem.P.repr_of_none ⟨.str _, H, I.tok _, ⟨_, rfl⟩, q⟩
  | bl b =>
    obtain rfl : u = Value.bool b := ru
    exact PySem.P.repr_of_bool ⟨.str _, H, I.tok _, ⟨_, rfl⟩, q⟩
  | str h =>
    obtain ⟨t, rfl⟩ := ru
    exact PySem.P.repr_of_str ⟨.str _, H, I.tok _, ⟨_, rfl⟩, q⟩ h
  | @obj p d hd h1 h2 h3 h4 =>
    obtain ⟨as, reads⟩ := Dp.reads I d (.ref p) u hd ru
    obtain rfl : u = Value.ref p := ru
    exact repr_of_reads' reads h1 (fun h => by rw [h2] at h; cases h) gd (by omega) (fun _ _ e => e) (fun g t tk rest => ⟨.str d.shown, H, I.kept (t' := tk) rest, ⟨t, rfl⟩, q⟩) h4
end
/-! ### a law with lambdas, run at the top alone -/
def tab0 : Obj := { cls := .none, data := .fields #[] }
def fz (vs : List Value) (ns : List Int) : HO := .frz { cls := .type "list", data := .seq vs.toArray } (.lst (ns.map V.int))
/-- what the law is told: the empty tables, and the script, if it is none of the written objects -/
structure Told0 (P : Program) (w : World) (K : PySem.W.Frag) (h : Heap) (a : Addr) (ns : List Int) (Ts : List Addr) (H : Hp) : Prop where
  tabs : ∀ b ∈ Ts, H b = some (.tbl #[])
  only : ∀ b, b ∉ Ts → H b = none ∨ ∃ ob xs, H b = some (.frz ob (.lst xs))
  seq : SqL K H a (ns.map V.int)
  hok : HOk P w H h
  here : ∀ b, H b ≠ none → b = a ∨ b ∈ Ts
  lone : H a ≠ none → K.lookup a = none
theorem told0 {P : Program} {w : World} {K : PySem.W.Frag} {h : Heap} {a : Addr} {vs : List Value} {ns : List Int} {Ts : List Addr} (inK : K.In h) (ha : h.get? a = some { cls := .type "list", data := .seq vs.toArray }) (hi : IntsAre vs ns) (hl : ns.length ≤ sizeLine) (tb : ∀ b ∈ Ts, h.get? b = some tab0) : ∃ H : Hp, Told0 P w K h a ns Ts H := by
  have rv := vals_ints hi
  have off : a ∉ Ts := fun z => by
    have q := (tb a z).symm.trans ha
    exact nomatch congrArg Obj.data (Option.some.inj q)
  cases hk : K.lookup a with
  | some o =>
    obtain rfl : o = { cls := .type "list", data := .seq vs.toArray } := Option.some.inj ((inK a o hk).symm.trans ha)
    refine ⟨fun b => if b ∈ Ts then some (.tbl #[]) else none, fun b m => if_pos m, fun b m => .inl (if_neg m), .inr ⟨_, vs.toArray, _, hk, rfl, rfl, rfl, by rw [List.size_toArray, hi.length]; exact hl, by simpa using rv⟩, fun b u z => ?_, fun b z => .inr (Classical.byContradiction fun n => z (if_neg n)), fun z => absurd (if_neg off) z⟩
    by_cases m : b ∈ Ts
    · obtain rfl : HO.tbl #[] = u := Option.some.inj ((if_pos m).symm.trans z)
      exact tb b m
    · exact nomatch (if_neg m).symm.trans z
  | none =>
    have ifa : (if a ∈ Ts then some (HO.tbl #[]) else if a = a then some (fz vs ns) else none) = some (fz vs ns) := (if_neg off).trans (if_pos rfl)
    refine ⟨fun b => if b ∈ Ts then some (.tbl #[]) else if b = a then some (fz vs ns) else none, fun b m => if_pos m, fun b m => ?_, .inl (.inr ⟨_, ifa⟩), fun b u z => ?_, fun b z => ?_, fun _ => hk⟩
    · by_cases e : b = a
      · exact .inr ⟨_, _, (if_neg m).trans (if_pos e)⟩
      · exact .inl ((if_neg m).trans (if_neg e))
    · by_cases m : b ∈ Ts
      · obtain rfl : HO.tbl #[] = u := Option.some.inj ((if_pos m).symm.trans z)
        exact tb b m
      · have z2 := (if_neg m).symm.trans z
        by_cases e : b = a
        · obtain rfl : fz vs ns = u := Option.some.inj ((if_pos e).symm.trans z2)
          have few : (ns.map V.int).length ≤ sizeLine := by rw [List.length_map]; exact hl
          rw [e]
          exact ⟨ha, few, vs, _, rv, ha⟩
        · exact nomatch (if_neg e).symm.trans z2
    · by_cases m : b ∈ Ts
      · exact .inr m
      · by_cases e : b = a
        · exact .inl e
        · exact absurd ((if_neg m).trans (if_neg e)) z
theorem top_tabs {P : Program} {w : World} {K : PySem.W.Frag} {mg mb : Str → Option Value} {fa a : Addr} {fd : FuncData} {x : Str} {sp : Sp} {s₁ : Shared} {vs : List Value} {ns : List Int} {cs : List (Addr × Addr)} (inK : K.In s₁.heap) (names : s₁.heap.Ns mainGlobals mg) (hb : s₁.heap.Ns builtinsNs mb)
    (boot : ∀ x : Str, x ≠ "__name__" → mb x = bootBuiltins x) (free : s₁.heap.NoLimit) (young : s₁.gens = #[]) (ha : s₁.heap.get? a = some { cls := .type "list", data := .seq vs.toArray }) (hi : IntsAre vs ns) (hl : ns.length ≤ sizeLine)
    (tb : ∀ p ∈ cs, s₁.heap.get? p.2 = some tab0) (away : ∀ p ∈ cs, K.lookup p.2 = none) (hd : ∀ p ∈ cs, PySem.W.codeHdIn K p.1 p.2 = true)
    (main : ∃ (bm : Addr) (ob : Obj), mg "__builtins__" = some (.ref bm) ∧ bm ≠ builtinsNs ∧ s₁.heap.get? bm = some ob ∧ ob.cls = .type "module" ∧ ob.dict = some builtinsNs ∧ ob.data = .plain)
    (F : ∀ base : Heap, K.In base → base.Ns mainGlobals mg → (∀ p ∈ cs, TabB base mg p.1 p.2) → RunAt P w K mg base callerA fa fd [x] sp) (bind : ∀ (s : Shared) (u : Value), BindsTo s fd ⟨[u], []⟩ [(x, u)])
    (want : ∀ H : Hp, (∀ p ∈ cs, H p.2 = some (.tbl #[])) → SqL K H a (ns.map V.int) → sp [.ref a] H (fun v _ => v = .bl true) fun _ _ _ => False) :
    codeAny (model P w) callerA (.call (.ref fa) ⟨[.ref a], []⟩) (fun r s' => r = .ok (.ret (.bool true)) ∧ OldK s₁.heap s'.heap ∧ s'.os = s₁.os ∧ AllBare s'.gens) s₁ := by
  have tb' : ∀ b ∈ cs.map (·.2), s₁.heap.get? b = some tab0 := fun b m => by
    obtain ⟨p, hp, rfl⟩ := List.mem_map.mp m
    exact tb p hp
  obtain ⟨H, told⟩ := told0 (P := P) (w := w) inK ha hi hl tb'
  have in_ : ∀ p ∈ cs, p.2 ∈ cs.map (·.2) := fun p hp => List.mem_map.mpr ⟨p, hp, rfl⟩
  -- what is neither a list nor a table stays in the base
  have out : ∀ {b : Addr} {o : Obj}, s₁.heap.get? b = some o → (∀ it n, o.data ≠ .seq it n) → o.data ≠ .fields #[] → (hidT s₁.heap H).get? b = some o := fun {b o} g n1 n2 => hidT_get g (Classical.byContradiction fun z => by
    rcases told.here b z with rfl | m
    · rw [ha] at g
      cases g
      exact n1 _ _ rfl
    · rw [tb' b m] at g
      cases g
      exact n2 rfl)
  have ns' : ∀ {b : Addr} {m : Str → Option Value}, s₁.heap.Ns b m → (hidT s₁.heap H).Ns b m := fun ⟨o, es, ep, g, d, r⟩ => ⟨o, es, ep, out g (fun _ _ z => nomatch d.symm.trans z) (fun z => nomatch d.symm.trans z), d, r⟩
  have inB : K.In (hidT s₁.heap H) := fun b o q => hidT_get (inK b o q) (Classical.byContradiction fun z => by
    rcases told.here b z with rfl | m
    · rw [told.lone z] at q
      cases q
    · obtain ⟨p, hp, rfl⟩ := List.mem_map.mp m
      rw [away p hp] at q
      cases q)
  have free' : (hidT s₁.heap H).NoLimit := let ⟨mc, h1, h2⟩ := free; ⟨mc, ns' h1, h2⟩
  have glob : ∀ {b : Addr} {o : Obj}, s₁.heap.get? b = some o → (∀ es n, o.data ≠ .dict es n) → mainGlobals ≠ b := fun g n z => by
    obtain ⟨o, es, ep, g2, d, _⟩ := names
    rw [z, g] at g2
    cases g2
    exact n _ _ d
  have tabs : ∀ p ∈ cs, TabB (hidT s₁.heap H) mg p.1 p.2 := fun p hp => by
    obtain ⟨bm, ob, m1, m2, m3, m4, m5, m6⟩ := main
    refine ⟨PySem.W.codeHd_of_K inB (hd p hp), ⟨bm, ob, m1, m2, (glob m3 fun _ _ z => nomatch m6.symm.trans z).symm, fun z => ?_, out m3 (fun _ _ z => nomatch m6.symm.trans z) (fun z => nomatch m6.symm.trans z), m4, m5, m6⟩, glob (tb p hp) fun _ _ z => nomatch z⟩
    rw [z, tb p hp] at m3
    cases m3
    cases m6
  have e0 : Env0 P w K mg (hidT s₁.heap H) callerA [] s₁ H := ⟨rfl, ⟨inB, ns' names, ⟨mb, ns' hb, boot⟩, free'⟩, fun b o q => of_hidT q, Nat.le_of_eq (hidT_size _ _), trivial, fun b m => absurd (show b ∈ ([] : List Addr) from m) List.not_mem_nil, told.hok, .of_eq young⟩
  refine codeAny_mono (F _ inB (ns' names) tabs [] s₁ H ⟨[.ref a], []⟩ [.ref a] [.ref a] _ _ e0 (bind s₁ (.ref a)) (.cons rfl .nil) (want H (fun p hp => told.tabs _ (in_ p hp)) told.seq)) fun r s' got => ?_
  match r, got with
  | .error e, got => exact False.elim got
  | .ok .next, got => exact False.elim got
  | .ok .brk, got => exact False.elim got
  | .ok .cont, got => exact False.elim got
  | .ok (.ret u), ⟨v, H', os, bare, un, hok', rv, q⟩ =>
    obtain rfl : v = .bl true := q
    obtain rfl : u = Value.bool true := rv
    have grew : ∀ p ∈ cs, ∃ more : Array Value, s'.heap.get? p.2 = some { cls := .none, data := .fields more } := fun p hp =>
      let ⟨more, z⟩ := un.tbls p.2 #[] (told.tabs _ (in_ p hp)); ⟨_, hok' p.2 _ z⟩
    have same : ∀ b o, b ∉ cs.map (·.2) → s₁.heap.get? b = some o → s'.heap.get? b = some o := fun b o n g => by
      rcases told.only b n with z | ⟨ob, xs, z⟩
      · exact un.keep b o g z (fun m => absurd (show b ∈ ([] : List Addr) from m) List.not_mem_nil) List.not_mem_nil
      · obtain ⟨e1, _⟩ := told.hok b _ z
        obtain ⟨e2, _⟩ := hok' b _ (un.frzs b ob _ z)
        rw [g] at e1
        cases e1
        exact e2
    refine ⟨rfl, ⟨fun b o g => ?_, fun b o g => ?_⟩, os, bare⟩
    · by_cases m : b ∈ cs.map (·.2)
      · obtain ⟨p, hp, rfl⟩ := List.mem_map.mp m
        obtain ⟨more, gm⟩ := grew p hp
        have hc := PySem.W.codeHd_of_K inK (hd p hp)
        obtain rfl : tab0 = o := Option.some.inj ((tb p hp).symm.trans g)
        exact .inr (.inl ⟨(hc.tab g).isCodeTable, rfl, #[], more, rfl, by rw [gm]; congr; exact (Array.empty_append).symm⟩)
      · exact .inl (same b o m g)
    · by_cases m : b ∈ cs.map (·.2)
      · obtain ⟨p, hp, rfl⟩ := List.mem_map.mp m
        obtain ⟨more, gm⟩ := grew p hp
        exact ⟨_, gm⟩
      · exact ⟨o, same b o m g⟩
def LawTop (l : PySem.W.OpenLaw) (w : World) (K : PySem.W.Frag) (x : Str) (mg : Str → Option Value) (fa : Addr) (h : Heap) : Prop :=
  ∃ (fd : FuncData) (cs : List (Addr × Addr)) (sp : Sp), (∀ p ∈ cs, h.get? p.2 = some tab0) ∧ (∀ p ∈ cs, K.lookup p.2 = none) ∧ (∀ p ∈ cs, PySem.W.codeHdIn K p.1 p.2 = true) ∧ (∀ (s : Shared) (u : Value), BindsTo s fd ⟨[u], []⟩ [(x, u)]) ∧
    (∀ (H : Hp) (a : Addr) (ns : List Int), ns.length ≤ 63 → (∀ p ∈ cs, H p.2 = some (.tbl #[])) → SqL K H a (ns.map V.int) → sp [.ref a] H (fun v _ => v = .bl true) fun _ _ _ => False) ∧
    ∀ base : Heap, K.In base → base.Ns mainGlobals mg → (∀ p ∈ cs, TabB base mg p.1 p.2) → RunAt l.prog w K mg base callerA fa fd [x] sp
theorem walk_tabs {l : PySem.W.OpenLaw} {q : Program} {loose : List Str} {XP : (Str → Option Value) → Heap → Prop} {YP : World → Heap → Prop} {d : DefRec} {K : Params → PySem.W.Frag} {x : Str} (many : l.most = some 63) (plain : d.params.defaults = []) (inK : ∀ (w : World) (h : Heap), YP w h → (K w.params).In h)
    (F : ∀ (w : World) (mg : Str → Option Value) (fa : Addr) (h : Heap), YP w h → (K w.params).In h → h.Ns mainGlobals mg → mg d.name = some (.ref fa) → LawTop l w (K w.params) x mg fa h) :
    PySem.W.WalkO q loose XP YP l.row.toRowW d [] (fun f vs => PySem.call f vs) :=
  Att.attach_callB many plain fun w s₀ s₁ mg mb fa o pm cd doc a vs ns G Y ho hd hcd hmg hobj hints hlen _ hg => by
    obtain ⟨fd, cs, sp, h1, h2, h3, h4, h5, h6⟩ := F w mg fa _ Y (inK w _ Y) G.T.g hmg
    exact top_tabs (inK w _ Y) G.T.g G.T.b G.T.builtins G.T.nolimit hg hobj hints (Nat.le_trans hlen (by decide)) h1 h2 h3 G.T.bmain h6 h4 fun H tb seq => h5 H a ns hlen tb seq
end KD
set_option Elab.async false
set_option linter.all false
set_option maxRecDepth 100000
set_option maxHeartbeats 4000000
namespace KErr
open PySem PySem.Spec PyProof.Rows L2 Evl
/-! ### a caught error that a name keeps -/
/-- at a stands the object oe -/
def errO (a : Addr) (oe : Obj) : HO := .ext fun h => h.get? a = some oe
/-- at a stands an error of the class D, its dict at dd with the fields fs -/
def ErrAt (H : Hp) (a D dd : Addr) (fs : List (Str × V)) : Prop := ∃ oe : Obj, H a = some (errO a oe) ∧ oe.cls = .ref D ∧ oe.dict = some dd ∧ (∃ vs, oe.data = .fields vs) ∧ H dd = some (.xd fs)
theorem ErrAt.mono {H H' : Hp} {a D dd : Addr} {fs : List (Str × V)} (h : ErrAt H a D dd fs) (e : Ex H H') : ErrAt H' a D dd fs := let ⟨oe, h1, h2, h3, h4, h5⟩ := h; ⟨oe, e _ _ h1, h2, h3, h4, e _ _ h5⟩
section
variable {X : Cx} {a D dd : Addr} {pins : List (Addr × Obj)} {σ : L2.St} {H : Hp} {s : Shared} {e : Expr} {te : TE} {pos : Pos} {fs : List (Str × V)}
theorem ErrAt.inst (I : Inv X pins σ H s) (h : ErrAt H a D dd fs) : ∃ oe od mA, PySem.W.InstAt s.heap a oe D (some od) ∧ s.heap.get? dd = some od ∧ s.heap.Ns1 dd mA ∧ ∀ f, RelO (fs.lookup f) (mA f) := by
  obtain ⟨oe, ha, hc, hd, ⟨vs, hv⟩, hx⟩ := h
  have at_ : s.heap.get? a = some oe := (show ObjOk X.prog X.w H s.heap a (errO a oe) from I.hok a _ ha).1
  obtain ⟨mA, ns, rel⟩ := (show ObjOk X.prog X.w H s.heap dd (.xd fs) from I.hok dd _ hx)
  obtain ⟨od, ho, _⟩ := lookIn_ns ns
  exact ⟨oe, od, mA, ⟨at_, hc, by unfold PySem.W.notCls; rw [hv] <;> rfl, by rw [hd]; exact ho⟩, ho, ns, rel⟩
/-- isinstance(error, class) -/
def rIsE (K : PySem.W.Frag) (D : Addr) : List V → Hp → VK → Prop := fun xs H Q => ∃ (a dd : Addr) (fs : List (Str × V)) (c : V) (cv : Value) (b : Bool), xs = [.ref a, c] ∧ (∀ u, RelV c u → u = cv) ∧ ErrAt H a D dd fs ∧ PySem.W.kitOne K (.ref D) cv = some b ∧ Q (.bl b) H
theorem call_isE (C : ExcC X.K D) (hcl : (PySem.W.clsIn X.K D).isSome = true) : CallR X (.builtin "isinstance") (rIsE X.K D) := by
  intro pins s σ H xs us Q I r h
  obtain ⟨a, dd, fs, c, cv, b, rfl, hcv, hE, e, q⟩ := h
  match us, r with
  | [_, _], .cons rx (.cons rt .nil) =>
    obtain rfl := (show _ = Value.ref a from rx)
    obtain rfl := hcv _ rt
    obtain ⟨oe, od, mA, J, _⟩ := hE.inst I
    exact PySem.W.kia_one (PySem.W.kitx_exc hcl C.hg C.hk C.hs C.ha C.hn C.ht C.hm) I.kIn J e (fun z => nomatch z) fun tk => ⟨.bl b, H, I.kept (t' := tk) fun _ _ z => z, rfl, q⟩
/-- error.field -/
def tErrF (D : Addr) (f : Str) (te : TE) : TE := fun σ H Q => te σ H fun x H1 => ∃ (a dd : Addr) (fs : List (Str × V)) (v : V), x = .ref a ∧ ErrAt H1 a D dd fs ∧ fs.lookup f = some v ∧ Q v H1
theorem pe_errF {f : Str} (C : ExcC X.K D) (no : PySem.W.findIn X.K (.ref D) f = some none) (he : PE X e te) (hb : attributeBase e f X.env (eval e X.env) = eval e X.env := by rfl) : PE X (.Attribute e f pos) (tErrF D f te) where
  run := fun pins s σ H Q I h => by
    refine attr_of hb (thn (he.run pins s σ H _ I h) fun u s1 got => ?_)
    obtain ⟨x, H1, I1, rx, a, dd, fs, v, rfl, hE, l, q⟩ := got
    obtain rfl : u = Value.ref a := rx
    obtain ⟨oe, od, mA, J, ho, ns, rel⟩ := hE.inst I1
    obtain ⟨od', ho', looks⟩ := lookIn_ns ns
    obtain rfl : od = od' := Option.some.inj (ho.symm.trans ho')
    obtain ⟨w', hw, rw'⟩ := RelO.some_of (v := v) (o := mA f) (by rw [← l]; exact rel f)
    exact HandSPX.exc_get I1.kIn J C.hg C.hk C.hs (PySem.W.findObj_own C.hd no rfl (by rw [looks, hw])) (handed_of rw') ⟨v, H1, I1.tok _, rw', q⟩
end
/-- an object that nothing knew is known from now on -/
theorem inv_track {X : Cx} {pins : List (Addr × Obj)} {σ : L2.St} {H : Hp} {s : Shared} {a : Addr} {oe : Obj} (I : Inv X pins σ H s) (ha : s.heap.get? a = some oe) (na : H a = none) (n0 : X.s_0.heap.get? a = none) (np : ∀ p ∈ X.pn ++ pins, p.1 ≠ a) (nl : X.env.locals ≠ a) (nc : ∀ x c, X.env.cells.lookup x = some c → c ≠ a) : Inv X pins σ (upd H a (errO a oe)) s where
  ok := I.ok
  os := I.os
  bare := I.bare
  base := {
    keep := I.base.keep
    slot := I.base.slot
    free := fun b o g n x => by
      have ne : b ≠ a := fun z => by rw [z, n0] at g; cases g
      rw [upd_ne ne]
      exact I.base.free b o g n x
    there := I.base.there
    tups := fun b xs q => by
      have t := I.base.tups b xs q
      rw [upd_ne (ne_of_none t na)]
      exact t
    frzs := fun b o u q => by
      have t := I.base.frzs b o u q
      rw [upd_ne (ne_of_none t na)]
      exact t
    tbls := fun b ps q => by
      obtain ⟨more, t⟩ := I.base.tbls b ps q
      exact ⟨more, by rw [upd_ne (ne_of_none t na)]; exact t⟩ }
  loc := I.loc
  cell := I.cell
  free := by rw [upd_ne nl]; exact I.free
  freeC := fun x c l => by rw [upd_ne (nc x c l)]; exact I.freeC x c l
  pin := fun p m => by
    obtain ⟨h1, h2, h3⟩ := I.pin p m
    exact ⟨h1, by rw [upd_ne (np p m)]; exact h2, h3⟩
  hok := fun b u q => by
    by_cases e : b = a
    · subst e
      rw [upd_same] at q
      cases q
      exact ⟨ha, ⟨oe, ha⟩, fun h1 h2 p k => k _ p⟩
    · rw [upd_ne e] at q
      exact (I.hok b u q).stay (fun _ _ _ z => z) (fun c z => by rw [upd_ne (ne_of_none z na)]; exact z) (fun c xs z => by rw [upd_ne (ne_of_none z na)]; exact z)
  len := I.len
end KErr
set_option Elab.async false
set_option linter.all false
set_option maxRecDepth 100000
set_option maxHeartbeats 4000000
namespace KErr
open PySem PySem.Spec PyProof.Rows L2 Evl
/-- as wAs, but the error is known behind the suite -/
def wKeep (K : PySem.W.Frag) (c : Value) (i : Nat) (ts : Addr → Value → Option Addr → TS) (D : Ends) : WX := fun cls d σ H =>
  PySem.W.exmOne K cls c = some true ∧ ∀ (a : Addr) (oe : Obj), H a = none → Zc cls d oe → (∃ vs, oe.data = .fields vs) →
    ts a cls d { nx := fun σ' H' => D.nx (σ'.set i none) (upd H' a (errO a oe)), rt := fun _ _ => False, bk := fun _ _ => False, ct := fun _ _ => False } (σ.set i (some (.ref a))) H
section
variable {X : Cx} {x n : Str} {c : Value} {i : Nat} {body rest : List Stmt} {st₀ : Stmt} {np q1 q2 : Pos} {tb : WX → TS} {ts : Addr → Value → Option Addr → TS}
theorem ps_try_keep (stk : X.stack = X.env :: X.outer) (frm : X.env.frame = some X.env.locals) (noex : X.ex = []) (nd : X.N.Nodup) (hi : X.N[i]? = some n) (loc : X.env.kindOf n = some .local) (nms : Names X x c)
    (bodyOk : ∀ (W : WX) (pn : List (Addr × Obj)) (xe : Value → Shared → Prop), Takes (X.tr pn xe) W → PassesOwn (model X.prog X.w) X.A X.env xe → PSs (X.tr pn xe) body (tb W))
    (suiteOk : ∀ (a : Addr) (oe : Obj) (cls : Value) (d : Option Addr) (pn : List (Addr × Obj)), Zc cls d oe → (∃ vs, oe.data = .fields vs) → PSs (X.suite a ((a, oe) :: pn)) (st₀ :: rest) (ts a cls d)) :
    PS X (.Try body [.ExceptHandler (some (.Name x np)) (some n) (st₀ :: rest) q1] [] [] q2) (fun D σ H => tb (wKeep X.K c i ts D) D σ H) := by
  refine ⟨fun pins s σ H D I told => ?_⟩
  have fine := I.ok
  have frames : X.A.frames = some (X.env :: X.outer) := by rw [fine.frames, stk]
  have there : Loc X.env.scope n := .inl loc
  refine wpAny_Try_except ?_
  let catch_ : Value → Shared → Prop := fun u s₁ => wpAny (model X.prog X.w) X.A (noteFrame u X.env) (fun _ s₂ => wpAny (model X.prog X.w) X.A (setFlight u none) (fun _ s₃ =>
      wpAny (model X.prog X.w) X.A (handleBy u X.env [.ExceptHandler (some (.Name x np)) (some n) (st₀ :: rest) q1]) (SP X pins D) X.xe s₃) X.xe s₂) X.xe s₁
  refine wpAny_mono ((bodyOk (wKeep X.K c i ts D) (X.pn ++ pins) catch_ (fun u t air => ?_) PassesOwn.looking).run [] s σ H D (I.toTry _) told) (fun fl t done => ?_) (fun _ _ z => z)
  · obtain ⟨a, B, t0, _, τ, G, cls, d, rfl, J', ground, up1, sky, na, os, ag, yes, act⟩ := air
    have J : Inv X pins τ G t0 := J'.ofTry fine
    have sky2 : Sky B (X.env :: X.outer) a (Zc cls d) X.env.locals t.heap := by rw [← stk]; exact sky
    show wpAny _ X.A (noteFrame (.ref a) X.env) _ _ t
    refine Sky.land Zc.steady frames frm sky2 fun g3 fly3 up3 => ?_
    have J3 : Inv X pins τ G { t with heap := g3 } := J.landed ground fly3.1 (up1.trans up3) os ag
    obtain ⟨e3, w3, get3, z3, dat3⟩ := fly3.there
    have off : a ∉ frs (X.env :: X.outer) := fun m => by
      obtain ⟨_, ob, g, no⟩ := fly3.2.2.1.mem m
      rw [get3] at g
      cases g
      exact no _ dat3
    have off1 : a ≠ X.env.locals := fun z => off (List.mem_filterMap.mpr ⟨X.env, List.mem_cons_self, by rw [frm, z]⟩)
    have off2 : a ∉ X.fs := fun m => by
      obtain ⟨v, hv, z⟩ := List.mem_filterMap.mp m
      exact off (List.mem_filterMap.mpr ⟨v, List.mem_cons_of_mem _ hv, z⟩)
    -- what stood ahead of the error is not the error
    have old : ∀ b o, t0.heap.get? b = some o → b ∉ frs X.stack → b ≠ a := fun b o g nf z => by
      have g2 := ground b o g nf
      rw [z, fly3.2.1] at g2
      cases g2
    have young : X.s_0.heap.get? a = none := by
      cases h0 : X.s_0.heap.get? a with
      | none => rfl
      | some o =>
        obtain ⟨o', g⟩ := J.base.there a o h0 (by rw [noex]; exact List.not_mem_nil)
        exact absurd rfl (old a o' g (by rw [stk]; exact off))
    have S3 := J3.suite get3 dat3 na off1 off2
    refine wpAny_handleBy_cons (codeAny_handlers_test ?_) (fun z => nomatch z)
    have kind : PySem.W.Looks (model X.prog X.w) g3 (typeOf (.ref a)) cls := fun A Q E s k q => wpAny_typeOf_ref (k _ _ get3) (by rw [z3.1]; exact q)
    have met := PySem.W.exm_one (M := model X.prog X.w) J3.kIn kind yes
    have named : ∀ {Q : Value → Shared → Prop} {E : Value → Shared → Prop}, Q c { t with heap := g3 } → wpAny (model X.prog X.w) (X.A.mark (some (.ref a))) (eval (.Name x np) X.env) Q E { t with heap := g3 } := fun q => by
      obtain ⟨hg, nodb, h | ⟨h, boot, nn⟩⟩ := nms
      · exact ld_glob (X := X.suite a ((a, e3) :: (X.pn ++ pins))) S3 hg h q nodb
      · exact ld_blt (X := X.suite a ((a, e3) :: (X.pn ++ pins))) S3 hg h boot q nn nodb
    refine named (met.here (codeAny_handlers_suite_as (HandSPX.lands_againZ fly3 fun g4 fly4 up4 => ?_)))
    have J4 : Inv X pins τ G { t with heap := g4 } := J.landed ground fly4.1 ((up1.trans up3).trans up4) os ag
    obtain ⟨e4, w4, get4, z4, dat4⟩ := fly4.there
    refine store_ok (X := X.suite a ((a, e4) :: (X.pn ++ pins))) (v := .ref a) (J4.suite get4 dat4 na off1 off2) nd hi there rfl (fun t5 S5 => ?_) (.inr loc)
    refine wpAny_mono ((suiteOk a e4 cls d (X.pn ++ pins) z4 ⟨_, dat4⟩).run [] t5 _ G _ S5 (act a e4 na z4 ⟨_, dat4⟩)) (fun fl t6 done => ?_) (fun _ _ z => False.elim z)
    match fl, done with
    | .next, ⟨τ6, G6, S6, q6⟩ =>
      refine gone_ok (X := X.suite a ((a, e4) :: (X.pn ++ pins))) S6 nd hi loc fun t7 S7 => ⟨_, _, inv_track (S7.unsuite fine) (S7.pin (a, e4) (List.mem_append_left _ List.mem_cons_self)).1 (S7.pin (a, e4) (List.mem_append_left _ List.mem_cons_self)).2.1 young (fun p m => ?_) (Ne.symm off1) (fun y b l z => ?_), q6⟩
      · obtain ⟨g, _, n1, n2, _⟩ := J.pin p m
        refine old p.1 p.2 g fun m2 => ?_
        rw [stk] at m2
        obtain ⟨v, hv, z⟩ := List.mem_filterMap.mp m2
        rcases List.mem_cons.mp hv with rfl | hv
        · rw [frm] at z
          exact n1 (Option.some.inj z).symm
        · exact n2 (List.mem_filterMap.mpr ⟨v, hv, z⟩)
      · obtain ⟨v, ob, g, dv⟩ := S7.cell y b l
        have g2 := (S7.pin (a, e4) (List.mem_append_left _ List.mem_cons_self)).1
        rw [z, g2] at g
        cases g
        rw [dat4] at dv
        cases dv
    | .brk, ⟨_, _, _, q6⟩ => exact False.elim q6
    | .cont, ⟨_, _, _, q6⟩ => exact False.elim q6
    | .ret _, ⟨_, _, _, _, _, q6⟩ => exact False.elim q6
  · match fl, done with
    | .next, ⟨τ, G, J, q⟩ => exact wpAny_execs_nil ⟨τ, G, J.ofTry fine, q⟩
    | .brk, ⟨τ, G, J, q⟩ => exact ⟨τ, G, J.ofTry fine, q⟩
    | .cont, ⟨τ, G, J, q⟩ => exact ⟨τ, G, J.ofTry fine, q⟩
    | .ret _, ⟨v, τ, G, J, r, q⟩ => exact ⟨v, τ, G, J.ofTry fine, r, q⟩
end
end KErr
set_option Elab.async false
set_option linter.all false
set_option maxRecDepth 100000
set_option maxHeartbeats 4000000
namespace KF
/-! ### the mathematics of a beat: L comings ahead, then again and again P of them -/
def place (L P i : Nat) : Nat := if i < L then i else L + (i - L) % P
def goesB (L P : Nat) (as : List Bool) (i : Nat) : Bool := as.getD (place L P i) false
def upTo (f : Nat → Bool) (c : Nat) : Nat := ((List.range c).filter f).length
def thr (L P : Nat) (as : List Bool) (c : Nat) : Nat := upTo (goesB L P as) c
def tot (L P : Nat) (as : List Bool) : Nat := thr L P as (L + P)
def cnt (as : List Bool) : Nat := (as.filter id).length
def each (L : Nat) (as : List Bool) : Nat := cnt (as.drop L)
theorem upTo_succ (f : Nat → Bool) (c : Nat) : upTo f (c + 1) = upTo f c + (if f c = true then 1 else 0) := by
  unfold upTo
  rw [List.range_succ, List.filter_append, List.length_append, List.filter_cons]
  split <;> rfl
theorem upTo_mono (f : Nat → Bool) {c d : Nat} (h : c ≤ d) : upTo f c ≤ upTo f d := by
  induction h with
  | refl => exact Nat.le_refl _
  | step _ ih =>
    rw [upTo_succ]
    omega
theorem upTo_le (f : Nat → Bool) (c : Nat) : upTo f c ≤ c := by
  have h := List.length_filter_le f (List.range c)
  rw [List.length_range] at h
  exact h
theorem upTo_inj (f : Nat → Bool) {c d : Nat} (hc : f c = true) (hd : f d = true) (h : upTo f (c + 1) = upTo f (d + 1)) : c = d := by
  have sc := upTo_succ f c
  have sd := upTo_succ f d
  rw [if_pos hc] at sc
  rw [if_pos hd] at sd
  rcases Nat.lt_trichotomy c d with l | e | l
  · have := upTo_mono f (show c + 1 ≤ d from l)
    omega
  · exact e
  · have := upTo_mono f (show d + 1 ≤ c from l)
    omega
theorem upTo_congr {f g : Nat → Bool} : ∀ {c : Nat}, (∀ i, i < c → f i = g i) → upTo f c = upTo g c
  | 0, _ => rfl
  | c + 1, h => by rw [upTo_succ, upTo_succ, upTo_congr (fun i hi => h i (Nat.lt_succ_of_lt hi)), h c (Nat.lt_succ_self c)]
theorem filter_get (f : Nat → Bool) : ∀ (n k c : Nat), ((List.range n).filter f)[k]? = some c → c < n ∧ f c = true ∧ upTo f c = k
  | 0, k, c, h => by simp at h
  | n + 1, k, c, h => by
    rw [List.range_succ, List.filter_append] at h
    by_cases hk : k < ((List.range n).filter f).length
    · rw [List.getElem?_append_left hk] at h
      obtain ⟨h1, h2, h3⟩ := filter_get f n k c h
      exact ⟨Nat.lt_succ_of_lt h1, h2, h3⟩
    · rw [List.getElem?_append_right (Nat.le_of_not_lt hk), List.filter_cons] at h
      split at h
      · rename_i hf
        have e : k - ((List.range n).filter f).length = 0 := by
          have := (List.getElem?_eq_some_iff.mp h).1
          simp at this
          omega
        rw [e] at h
        obtain rfl : n = c := by simpa using h
        exact ⟨Nat.lt_succ_self _, hf, by unfold upTo; omega⟩
      · simp at h
theorem place_low {L P i : Nat} (h : i < L + P) : place L P i = i := by
  unfold place
  split
  · rfl
  · rw [Nat.mod_eq_of_lt (by omega)]
    omega
theorem place_lt {L P : Nat} (hP : 0 < P) (i : Nat) : place L P i < L + P := by
  unfold place
  split
  · omega
  · have := Nat.mod_lt (i - L) hP
    omega
theorem place_per {L P i : Nat} (h : L ≤ i) : place L P (i + P) = place L P i := by
  unfold place
  rw [if_neg (by omega), if_neg (by omega), show i + P - L = i - L + P by omega, Nat.add_mod_right]
section
variable {L P : Nat} {as : List Bool}
theorem goes_per {i : Nat} (h : L ≤ i) : goesB L P as (i + P) = goesB L P as i := by
  unfold goesB
  rw [place_per h]
theorem goes_many {i : Nat} (h : L ≤ i) : ∀ t, goesB L P as (i + t * P) = goesB L P as i
  | 0 => by rw [Nat.zero_mul, Nat.add_zero]
  | t + 1 => by rw [show i + (t + 1) * P = i + t * P + P by rw [Nat.succ_mul]; omega, goes_per (by omega), goes_many h t]
theorem goes_low {i : Nat} (h : i < L + P) : goesB L P as i = as.getD i false := by
  unfold goesB
  rw [place_low h]
theorem thr_low {c : Nat} (h : c ≤ L + P) : thr L P as c = upTo (fun i => as.getD i false) c := upTo_congr fun i hi => goes_low (by omega)
theorem upTo_take (as : List Bool) : ∀ c, c ≤ as.length → upTo (fun i => as.getD i false) c = cnt (as.take c)
  | 0, _ => by simp [upTo, cnt]
  | c + 1, h => by
    have hc : c < as.length := h
    rw [upTo_succ, upTo_take as c (by omega), List.take_succ, List.getElem?_eq_getElem hc]
    unfold cnt
    rw [List.filter_append, List.length_append, List.getD_eq_getElem?_getD, List.getElem?_eq_getElem hc]
    show _ = _ + (List.filter id [as[c]]).length
    rw [List.filter_cons]
    show _ + (if as[c] = true then 1 else 0) = _ + (if as[c] = true then _ else _ : List Bool).length
    split <;> rfl
theorem thr_take (hl : as.length = L + P) {c : Nat} (h : c ≤ L + P) : thr L P as c = cnt (as.take c) := by
  rw [thr_low h, upTo_take as c (by omega)]
theorem cnt_app (xs ys : List Bool) : cnt (xs ++ ys) = cnt xs + cnt ys := by
  unfold cnt
  rw [List.filter_append, List.length_append]
theorem tot_is (hl : as.length = L + P) : tot L P as = thr L P as L + each L as := by
  unfold tot each
  rw [thr_take hl (Nat.le_refl _), thr_take hl (by omega), List.take_of_length_le (by omega), ← cnt_app, List.take_append_drop]
theorem thr_per (hl : as.length = L + P) {c : Nat} (h : L ≤ c) : thr L P as (c + P) = thr L P as c + each L as := by
  induction h with
  | refl => exact tot_is hl
  | @step m hm ih =>
    have hm : L ≤ m := hm
    have e1 := upTo_succ (goesB L P as) m
    have e2 := upTo_succ (goesB L P as) (m + P)
    rw [goes_per hm] at e2
    show upTo (goesB L P as) (m + 1 + P) = upTo (goesB L P as) (m + 1) + each L as
    have ih : upTo (goesB L P as) (m + P) = upTo (goesB L P as) m + each L as := ih
    rw [show m + 1 + P = m + P + 1 by omega, e2, e1, ih]
    omega
theorem thr_many (hl : as.length = L + P) {c : Nat} (h : L ≤ c) : ∀ t, thr L P as (c + t * P) = thr L P as c + t * each L as
  | 0 => by rw [Nat.zero_mul, Nat.zero_mul, Nat.add_zero, Nat.add_zero]
  | t + 1 => by
    rw [show c + (t + 1) * P = c + t * P + P by rw [Nat.succ_mul]; omega, thr_per hl (by omega), thr_many hl h t, Nat.succ_mul]
    omega
theorem thr_far (hl : as.length = L + P) {r : Nat} (hr : r ≤ P) (t : Nat) : thr L P as (L + r + t * P) = cnt (as.take L) + t * cnt (as.drop L) + cnt ((as.drop L).take r) := by
  rw [thr_many hl (by omega), thr_take hl (by omega), List.take_add, cnt_app]
  unfold each
  omega
theorem thr_all (hP : 0 < P) (hl : as.length = L + P) (h0 : each L as = 0) (c : Nat) : thr L P as c ≤ tot L P as := by
  by_cases h : c ≤ L + P
  · exact upTo_mono _ h
  · have e : c = (L + (c - L) % P) + (c - L) / P * P := by
      have := Nat.mod_add_div (c - L) P
      rw [Nat.mul_comm] at this
      omega
    have := Nat.mod_lt (c - L) hP
    rw [e, thr_many hl (by omega), h0, Nat.mul_zero, Nat.add_zero]
    exact upTo_mono _ (by omega)
/-- the comings of the list that go on -/
def goL (n : Nat) (as : List Bool) : List Nat := (List.range n).filter fun i => as.getD i false
theorem goL_len (L P : Nat) (as : List Bool) : (goL (L + P) as).length = tot L P as := (thr_low (Nat.le_refl _)).symm
theorem goL_get {k c : Nat} (h : (goL (L + P) as)[k]? = some c) : c < L + P ∧ goesB L P as c = true ∧ thr L P as c = k := by
  obtain ⟨h1, h2, h3⟩ := filter_get _ _ _ _ h
  exact ⟨h1, by rw [goes_low h1]; exact h2, by rw [thr_low (Nat.le_of_lt h1)]; exact h3⟩
theorem goL_side {k c : Nat} (h : (goL (L + P) as)[k]? = some c) : (L < c + 1) ↔ thr L P as L ≤ k := by
  obtain ⟨h1, h2, h3⟩ := goL_get h
  constructor
  · intro hc
    rw [← h3]
    exact upTo_mono _ (by omega)
  · intro hk
    refine Nat.lt_succ_of_le (Nat.le_of_not_lt fun lt => ?_)
    have := upTo_mono (goesB L P as) (show c + 1 ≤ L from lt)
    rw [upTo_succ, if_pos h2] at this
    have h3 : upTo (goesB L P as) c = k := h3
    have hk : upTo (goesB L P as) L ≤ k := hk
    omega
theorem from_get (g : Nat) : ∀ (n j : Nat), j < n - g → ((List.range n).filter fun i => decide (g ≤ i))[j]? = some (g + j)
  | 0, j, h => absurd h (by omega)
  | n + 1, j, h => by
    have len : ∀ n, ((List.range n).filter fun i => decide (g ≤ i)).length = n - g := fun n => by
      induction n with
      | zero => simp
      | succ n ih =>
        rw [List.range_succ, List.filter_append, List.length_append, ih, List.filter_cons]
        by_cases hg : g ≤ n
        · rw [if_pos (by simpa using hg)]
          simp
          omega
        · rw [if_neg (by simpa using hg)]
          simp
          omega
    rw [List.range_succ, List.filter_append]
    by_cases hj : j < n - g
    · rw [List.getElem?_append_left (by rw [len]; exact hj)]
      exact from_get g n j hj
    · rw [List.getElem?_append_right (by rw [len]; omega), len, List.filter_cons, if_pos (by simp; omega)]
      have e : j - (n - g) = 0 := by omega
      rw [e]
      simp
      omega
theorem from_len (g : Nat) (n : Nat) : ((List.range n).filter fun i => decide (g ≤ i)).length = n - g := by
  induction n with
  | zero => simp
  | succ n ih =>
    rw [List.range_succ, List.filter_append, List.length_append, ih, List.filter_cons]
    by_cases hg : g ≤ n
    · rw [if_pos (by simpa using hg)]
      simp
      omega
    · rw [if_neg (by simpa using hg)]
      simp
      omega
/-- the k-th coming that goes on, behind the first ones -/
theorem far_get (hP : 0 < P) (hl : as.length = L + P) (he : 0 < each L as) {k : Nat} (hk : tot L P as < k) : ∃ c0, (goL (L + P) as)[thr L P as L + (k - 1 - thr L P as L) % each L as]? = some c0 ∧
    goesB L P as (c0 + (k - 1 - thr L P as L) / each L as * P) = true ∧ thr L P as (c0 + (k - 1 - thr L P as L) / each L as * P + 1) = k := by
  have ht := tot_is hl
  have hm := Nat.mod_lt (k - 1 - thr L P as L) he
  have hd := Nat.mod_add_div (k - 1 - thr L P as L) (each L as)
  rw [Nat.mul_comm] at hd
  generalize hq : (k - 1 - thr L P as L) / each L as = q at hd
  generalize hr : (k - 1 - thr L P as L) % each L as = r at hm hd
  have hlt : thr L P as L + r < (goL (L + P) as).length := by rw [goL_len]; omega
  refine ⟨(goL (L + P) as)[thr L P as L + r], by simp [hlt], ?_⟩
  have hg : (goL (L + P) as)[thr L P as L + r]? = some (goL (L + P) as)[thr L P as L + r] := by simp [hlt]
  have hs := (goL_side hg).mpr (by omega)
  obtain ⟨h1, h2, h3⟩ := goL_get hg
  generalize (goL (L + P) as)[thr L P as L + r] = c0 at hg hs h1 h2 h3
  have g1 : goesB L P as (c0 + q * P) = true := by rw [goes_many (by omega)]; exact h2
  refine ⟨g1, ?_⟩
  have s := upTo_succ (goesB L P as) (c0 + q * P)
  rw [if_pos g1] at s
  have m := thr_many (P := P) hl (show L ≤ c0 by omega) q
  have m : upTo (goesB L P as) (c0 + q * P) = upTo (goesB L P as) c0 + q * each L as := m
  have h3 : upTo (goesB L P as) c0 = thr L P as L + r := h3
  show upTo (goesB L P as) (c0 + q * P + 1) = k
  rw [s, m, h3]
  omega
end
end KF
set_option Elab.async false
set_option linter.all false
set_option maxRecDepth 100000
set_option maxHeartbeats 4000000
namespace KF
open PySem PySem.Spec PyProof.Rows L2 Evl
local macro_rules | `(tactic| walk_at "ev") => `(tactic| repeat' (first | exact ev_c | exact ev_var rfl | exact rv_I0 | refine' rv_I ?_ | refine' rv_eq ?_ | refine' rv_ne ?_ | refine' ev_op ?_ ?_ ?_ | exact ea_nil | refine' ea_cons ?_ ?_ | refine' et_test ?_ | refine' et_B ?_ | refine' et_not ?_ | refine' ev_notV ?_))

theorem all_nat {n : Nat} {p : Nat → Bool} (h : (List.range n).all p = true) : ∀ i, i < n → p i = true := fun i hi => List.all_eq_true.mp h i (List.mem_range.mpr hi)
def EvI (te : TE) (σ : L2.St) (H : Hp) (C : Addr) (fs : List (Str × V)) : Prop := ∀ H1, Ex H H1 → ∀ Q : VK, (∀ p dx H2, H1 p = none → Ex H1 H2 → H2 p = some (.ins C dx fs) → Q (.ref p) H2) → te σ H1 Q
def EvW (K : PySem.W.Frag) (te : TE) (σ : L2.St) (H : Hp) (xs : List V) : Prop := ∀ H1, Ex H H1 → ∀ Q : VK, (∀ p H2, Ex H1 H2 → SqT K H2 p xs → Q (.ref p) H2) → te σ H1 Q
section
variable {σ : L2.St} {K : PySem.W.Frag} {H H' : Hp} {tx te ta tb tv : TE} {u t : TT} {v x y z : V} {r : R2} {D : Ends} {tz : TS}
theorem ev_isi {ta : TA} {c : V} {t u : Value} {b : Bool} (ha : EvA ta σ H [x, c]) (k : ClsV c u) (ty : ∀ H', Ex H H' → TyX K H' x t) (e : PySem.W.kitOne K t u = some b) : Ev (tCB (rIsi K) ta) σ H (.bl b) := fun H1 e1 Q q =>
  ha H1 e1 _ fun H2 e2 => ⟨x, c, t, u, b, rfl, k, ty H2 (e1.trans e2), e, q H2 e2⟩
theorem ev_chain {r r' : R2} {tc : TE} {k1 k2 : Bool} {z : V} (ha : Ev ta σ H x) (hb : Ev tb σ H y) (h1 : RV r x y H (.bl k1)) (hc : k1 = true → Ev tc σ H z ∧ RV r' y z H (.bl k2)) : Ev (tChain r r' ta tb tc) σ H (.bl (k1 && k2)) := fun H1 e1 Q q =>
  ha H1 e1 _ fun H2 e2 => hb H2 (e1.trans e2) _ fun H3 e3 => h1 H3 ((e1.trans e2).trans e3) _ fun H4 e4 => ⟨k1, rfl, by
    cases k1 with
    | true =>
      obtain ⟨h3, h4⟩ := hc rfl
      exact h3 H4 (((e1.trans e2).trans e3).trans e4) _ fun H5 e5 => h4 H5 ((((e1.trans e2).trans e3).trans e4).trans e5) _ fun H6 e6 => q H6 ((((e2.trans e3).trans e4).trans e5).trans e6)
    | false => exact q H4 ((e2.trans e3).trans e4)⟩
theorem ev_cval {ta : TE} {C : Addr} {mc : Value} {f : Str} {u : Value} (h : Ev ta σ H (.ref C)) (r : ClX.CRead K C mc) (k : ClX.CVal K C mc f v u) : Ev (ClX.tCVal K ta f) σ H v := fun H1 e Q q => h H1 e _ fun H2 e2 => ⟨C, mc, v, u, rfl, r, k, q H2 e2⟩
theorem ev_prop {C a : Addr} {dx : Addr} {fs : List (Str × V)} {sp : Sp} {E : XK} (h : Ev ta σ H (.ref a)) (ho : H a = some (.ins C dx fs)) (hs : SpV sp [.ref a] H v) : Ev (tProp C sp [] E ta) σ H v := fun H1 e Q q =>
  h H1 e _ fun H2 e2 => ⟨a, dx, fs, rfl, e2 _ _ (e _ _ ho), hs H2 (e.trans e2) Q (fun H3 e3 => q H3 (e2.trans e3)) E⟩
theorem ev_fld {C a : Addr} {dx : Addr} {fs : List (Str × V)} {f : Str} (h : Ev ta σ H (.ref a)) (ho : H a = some (.ins C dx fs)) (c : Cls K C) (n : NoAttr K C f) (l : fs.lookup f = some v) : Ev (tFld K ta f) σ H v := fun H1 e Q q =>
  h H1 e _ fun H2 e2 => ⟨a, C, dx, fs, v, rfl, e2 _ _ (e _ _ ho), c, n, l, q H2 e2⟩
theorem spv_get {C a : Addr} {dx : Addr} {fs : List (Str × V)} {f : Str} (ho : H a = some (.ins C dx fs)) (l : fs.lookup f = some v) : SpV (getSp C f) [.ref a] H v := fun H1 e Q q E => ⟨a, dx, fs, v, rfl, e _ _ ho, l, q H1 (Ex.refl _)⟩
end
section
variable {σ : L2.St} {K : PySem.W.Frag} {H H' : Hp} {tx te ta tb tv : TE} {u t : TT} {v x y z : V} {r : R2} {D : Ends} {tz : TS}
theorem el_lcS {s : Str} {tl' : TE} {j : Nat} {vs : List Nat} (f : Nat → Bool) (v : Nat → V) (h : Ev tl' σ H (.str s)) (hz : s.cps.size ≤ 40000) (hw : ∀ x, wipe ((wipe σ vs).set j (some x)) vs = wipe σ vs)
    (ht : ∀ (i : Nat) (c : Nat) H1, Ex H H1 → s.cps[i]? = some c → EvT t ((wipe σ vs).set j (some (.str ⟨#[c]⟩))) H1 (f i)) (he : ∀ (i : Nat) (c : Nat) H1, Ex H H1 → s.cps[i]? = some c → f i = true → Ev te ((wipe σ vs).set j (some (.str ⟨#[c]⟩))) H1 (v i)) :
    EvL (tLc (iStr tl') (gName j) t te vs) σ H (given s.cps.size f v) := fun H0 e Q q => h H0 e _ fun H1 e1 => ⟨s, rfl, fun Dl hD =>
  ⟨fun i m H' => m = s.cps.size - i ∧ i ≤ s.cps.size ∧ Cw H1 f v Dl i H', ⟨s.cps.size, by simp, Nat.zero_le _, hD, Ex.new hD, upd_same⟩, by
    rintro i m H' ⟨rfl, hi, p⟩
    by_cases hlt : i < s.cps.size
    · refine .inr ⟨hlt, Cw H1 f v Dl (i + 1), fun H2 p' => ⟨s.cps.size - (i + 1), by omega, rfl, hlt, p'⟩, ?_⟩
      rintro x H2 ⟨rfl, c, hc, rfl⟩
      exact ⟨hw _, cw_turn p (by omega) (ht i c H1 (e.trans e1) hc) (fun hf => he i c H1 (e.trans e1) hc hf)⟩
    · have e2 : i = s.cps.size := by omega
      subst e2
      exact .inl ⟨Nat.le_refl _, q Dl H' (fresh_back e1 p.1) (e1.trans p.2.1) p.2.2⟩⟩⟩
theorem el_lcT {a : Addr} {xs : List V} {tl : TE} {g : TG} {vs : List Nat} {σ' : V → L2.St} (f : Nat → Bool) (v : Nat → V) (h : Ev tl σ H (.ref a)) (hx : SqT K H a xs) (hz : xs.length ≤ 40000)
    (hg : ∀ (i : Nat) (x : V) H1 (Q : L2.St → Hp → Prop), Ex H H1 → xs[i]? = some x → Q (σ' x) H1 → g x (wipe σ vs) H1 Q) (hw : ∀ x, wipe (σ' x) vs = wipe σ vs)
    (ht : ∀ (i : Nat) (x : V) H1, Ex H H1 → xs[i]? = some x → EvT t (σ' x) H1 (f i)) (he : ∀ (i : Nat) (x : V) H1, Ex H H1 → xs[i]? = some x → f i = true → Ev te (σ' x) H1 (v i)) :
    EvL (tLc (iTup K tl) g t te vs) σ H (given xs.length f v) := fun H0 e Q q => h H0 e _ fun H1 e1 => ⟨a, rfl, ⟨xs, ex_t (e.trans e1) hx⟩, fun Dl hD =>
  lc_tup (xs := xs) (Cw H1 f v Dl) ⟨hD, Ex.new hD, upd_same⟩ (fun i H' _ p => ex_t ((e.trans e1).trans p.2.1) hx)
    (fun i x H' hi p => hg i x H' _ ((e.trans e1).trans p.2.1) hi ⟨hw x, cw_turn p (by have := (List.getElem?_eq_some_iff.mp hi).1; omega) (ht i x H1 (e.trans e1) hi) (fun hf => he i x H1 (e.trans e1) hi hf)⟩)
    (fun He cw => q Dl He (fresh_back e1 cw.1) (e1.trans cw.2.1) cw.2.2)⟩
theorem et_yes : EvT tYes σ H true := fun H1 _ _ q => q H1 (Ex.refl H1)
theorem eu_tuple {xs : List V} (h : EvL te σ H xs) : EvU (tCB (fun xs H Q => ∃ p ys, xs = [.ref p] ∧ ((SqL K H p ys ∧ ∀ l, H l = none → Q (.ref l) (upd H l (.tup ys))) ∨ (SqT K H p ys ∧ Q (.ref p) H))) (tCons te tNil)) σ H xs := fun H1 e Q q =>
  h H1 e _ fun p H2 _ e2 h2 => ⟨p, xs, rfl, .inl ⟨sq_of h2, fun l hl => q l _ (fresh_back e2 hl) (e2.trans (Ex.new hl)) upd_same⟩⟩
theorem ev_sum {ns : List Int} (h : EvL te σ H (ns.map V.int)) : Ev (tCB (rSum K) (tCons te tNil)) σ H (.int ns.sum) := fun H1 e Q q =>
  h H1 e _ fun p H2 _ e2 h2 => ⟨p, ns, rfl, sq_of h2, q H2 e2⟩
theorem el_is {xs ys : List V} (h : EvL te σ H xs) (e : xs = ys) : EvL te σ H ys := e ▸ h
theorem eu_is {xs ys : List V} (h : EvU te σ H xs) (e : xs = ys) : EvU te σ H ys := e ▸ h
end
section
variable {σ : L2.St} {K : PySem.W.Frag} {H H' : Hp} {tx te ta tb tv : TE} {u t : TT} {v x y z : V} {r : R2} {D : Ends} {tz : TS}
theorem q_asgTV {p : Addr} {xs : List V} {n : Nat} {tgs : TGs} (h : Ev te σ H (.ref p)) (hx : SqT K H p xs) (hl : xs.length = n) (k : ∀ H1, Ex H H1 → tgs xs σ H1 (tz D)) : tSeq (tAsg te (gTup K n tgs)) tz D σ H :=
  h H (Ex.refl _) _ fun H1 e => ⟨p, xs, rfl, ex_t e hx, hl, k H1 e⟩
end
theorem given_all {n : Nat} {v : Nat → V} : given n (fun _ => true) v = (List.range n).map v := by
  unfold given
  rw [List.filter_eq_self.mpr fun _ _ => rfl]
theorem pe_fldE {X : Cx} {K : PySem.W.Frag} {e : Expr} {ta : TE} {f : Str} {pos : Pos} (he : PE X e ta) (hb : attributeBase e f X.env (eval e X.env) = eval e X.env) (hK : X.K = K := by rfl) : PE X (.Attribute e f pos) (tFld K ta f) := by
  subst hK
  exact pe_fld he hb
section
variable {σ : L2.St} {K : PySem.W.Frag} {H H' : Hp} {tx te ta tb tv : TE} {u t : TT} {v x y z : V} {r : R2} {D : Ends} {tz : TS}
def ExB (p : Addr) (H H' : Hp) : Prop := ∀ b o, H b = some o → b ≠ p → H' b = some o
theorem ExB.refl (p : Addr) (H : Hp) : ExB p H H := fun _ _ h _ => h
theorem ExB.trans {p : Addr} {H H1 H2 : Hp} (a : ExB p H H1) (b : ExB p H1 H2) : ExB p H H2 := fun x o h n => b x o (a x o h n) n
theorem ExB.of {p : Addr} {H H' : Hp} (e : Ex H H') : ExB p H H' := fun x o h _ => e x o h
theorem q_fld {p C dx : Addr} {fs : List (Str × V)} {f : Str} (hv : Ev tv σ H y) (ha : Ev ta σ H (.ref p)) (hp : H p = some (.ins C dx fs)) (c : Cls K C) (n : NoAttr K C f) (hl : fs.length < 1000)
    (k : ∀ H1, ExB p H H1 → H1 p = some (.ins C dx (putF f y fs)) → tz D σ H1) : tSeq (sFld K ta tv f) tz D σ H :=
  hv H (Ex.refl _) _ fun H1 e1 => ha H1 e1 _ fun H2 e2 => ⟨p, C, dx, fs, rfl, e2 _ _ (e1 _ _ hp), c, n, hl, k _ (fun b o hb ne => by rw [upd_ne ne]; exact e2 _ _ (e1 _ _ hb)) upd_same⟩
end
section
variable {σ : L2.St} {K : PySem.W.Frag} {H H' : Hp} {tx te ta tb tv : TE} {u t : TT} {v x y z : V} {r : R2} {D : Ends} {tz : TS}
theorem el_sliceL {p : Addr} {xs : List V} {tl th : TO} {lo hi : Option Int} (h : Ev te σ H (.ref p)) (h1 : EvO tl σ H lo) (h2 : EvO th σ H hi) (hs : SqL K H p xs) : EvL (tSl (rSlL K) te tl th) σ H (cutV xs lo hi) := el_sl h h1 h2 hs
theorem el_listN {xs : List V} (h : EvL te σ H xs) : EvL (tCB (fun xs H Q => ∃ p ys, xs = [V.ref p] ∧ (SqL K H p ys ∨ SqT K H p ys) ∧ ∀ l, H l = none → Q (.ref l) (upd H l (.lst ys))) (tCons te tNil)) σ H xs := fun H1 e Q q =>
  h H1 e _ fun p H2 _ e2 h2 => ⟨p, xs, rfl, .inl (sq_of h2), fun l hl => q l _ (fresh_back e2 hl) (e2.trans (Ex.new hl)) upd_same⟩
theorem cut_ints (ns : List Int) (lo hi : Option Int) : ∃ ms : List Int, cutV (ns.map V.int) lo hi = ms.map V.int ∧ ms.length ≤ ns.length := by
  refine ⟨(ns.drop (HT.sIx ns.length 0 lo)).take (HT.sIx ns.length ns.length hi - HT.sIx ns.length 0 lo), ?_, ?_⟩
  · unfold cutV
    rw [List.length_map, List.map_take, List.map_drop]
  · rw [List.length_take, List.length_drop]
    omega
theorem ev_int {i : Int} (h : Ev te σ H (.int i)) : Ev (tCB (fun xs H Q => (∃ i, xs = [V.int i] ∧ Q (.int i) H) ∨ ∃ k, xs = [V.bl k] ∧ Q (.int (if k then 1 else 0)) H) (tCons te tNil)) σ H (.int i) := fun H1 e Q q => h H1 e _ fun H2 e2 => .inl ⟨i, rfl, q H2 e2⟩
theorem ev_intB {k : Bool} (h : Ev te σ H (.bl k)) : Ev (tCB (fun xs H Q => (∃ i, xs = [V.int i] ∧ Q (.int i) H) ∨ ∃ k, xs = [V.bl k] ∧ Q (.int (if k then 1 else 0)) H) (tCons te tNil)) σ H (.int (if k then 1 else 0)) := fun H1 e Q q => h H1 e _ fun H2 e2 => .inr ⟨k, rfl, q H2 e2⟩
theorem ev_lenS {p : Addr} {xs : List V} (ha : Ev ta σ H (.ref p)) (h : SqL K H p xs) : Ev (tCB (fun xs H Q => ∃ p ys, xs = [V.ref p] ∧ (SqL K H p ys ∨ SqT K H p ys) ∧ Q (.int (ys.length : Nat)) H) (tCons ta tNil)) σ H (.int (xs.length : Nat)) := ev_len ha h
theorem ev_abs {i : Int} (h : Ev te σ H (.int i)) : Ev (tCB (fun xs H Q => ∃ i, xs = [V.int i] ∧ Q (.int (if i < 0 then -i else i)) H) (tCons te tNil)) σ H (.int (if i < 0 then -i else i)) := fun H1 e Q q => h H1 e _ fun H2 e2 => ⟨i, rfl, q H2 e2⟩
end
theorem dp_ints {K : PySem.W.Frag} {H : Hp} : ∀ ns : List Int, DpAll K H (ns.map V.int) (ns.map PyData.int)
  | [] => .nil
  | n :: ns => .cons (.int n) (dp_ints ns)
theorem rv_neE {K : PySem.W.Frag} {H : Hp} {l q : Addr} {ns : List Int} (hl : H l = some (.lst (ns.map V.int))) (hq : H q = some (.lst [])) : RV (rNeD K) (.ref l) (.ref q) H (.bl (!PyData.eqv (.list (ns.map PyData.int)) (.list []))) := fun H1 e Q k =>
  ⟨.list (ns.map PyData.int), .list [], .lst (sq_of (e _ _ hl)) (dp_ints ns), .lst (sq_of (e _ _ hq)) .nil, PySem.W.ke_shaped_ints ns, PySem.W.ke_shaped_ints [], k H1 (Ex.refl H1)⟩
theorem eqv_nil (ns : List Int) : PyData.eqv (.list (ns.map PyData.int)) (.list []) = decide (ns = []) := by
  cases ns with
  | nil => simp [PyData.eqv, PyData.eqvAll]
  | cons n ns => simp [PyData.eqv, PyData.eqvAll]
theorem mul_bd {x y A B : Int} (h0 : 0 ≤ x) (h1 : x ≤ A) (h2 : 0 ≤ y) (h3 : y ≤ B) : 0 ≤ x * y ∧ x * y ≤ A * B :=
  ⟨Int.mul_nonneg h0 h2, Int.mul_le_mul h1 h3 h2 (Int.le_trans h0 h1)⟩
theorem s_retPen {te : TE} {σ : L2.St} {H : Hp} {D : Ends} {xs : List V} {x y : V} (h : EvL te σ H xs) (k : ∀ l p H1, H l = none → Ex H H1 → H1 l = some (.lst xs) → H1 p = none → D.rt (.ref p) (upd H1 p (.lst [.ref l, x, y]))) : tRet (tLst (tCons te (tCons (tC x) (tCons (tC y) tNil)))) D σ H :=
  h H (Ex.refl H) _ fun l H1 hl e1 h1 => ⟨by show 3 ≤ sizeLine; decide, fun p hp => k l p H1 hl e1 h1 hp⟩
theorem FnOk.either {P : Program} {w : World} {K : PySem.W.Frag} {mg : Str → Option Value} {base : Heap} {CX : CXT} {k : Nat} {f : Addr} {fd : FuncData} {ps : List Str} {s1 s2 : Sp} (F1 : FnOk P w K mg base CX k f fd ps s1) (F2 : FnOk P w K mg base CX k f fd ps s2) : FnOk P w K mg base CX k f fd ps (fun vs H Q E => s1 vs H Q E ∨ s2 vs H Q E) :=
  ⟨fun vs H Q E h => h.elim (F1.len vs H Q E) (F2.len vs H Q E), fun A outer s H args us vs Q E hr e0 hb r h => h.elim (F1.run A outer s H args us vs Q E hr e0 hb r) (F2.run A outer s H args us vs Q E hr e0 hb r)⟩
def TyE (K : PySem.W.Frag) (H : Hp) (x : V) (t : String) : Prop := ∀ H', Ex H H' → TyX K H' x (.type t)
def BadW (K : PySem.W.Frag) (H : Hp) (x : V) (m : Int) : Prop := (∃ (t : String) (b1 b2 : Bool), TyE K H x t ∧ kitB t "int" = some b1 ∧ kitB t "bool" = some b2 ∧ (b1 && !b2) = false) ∨ ∃ i : Int, x = .int i ∧ (i < 0 ∨ m < i)
theorem BadW.mono {K : PySem.W.Frag} {H H' : Hp} {x : V} {m : Int} (h : BadW K H x m) (e : Ex H H') : BadW K H' x m := by
  rcases h with ⟨t, b1, b2, ty, h1, h2, h3⟩ | h
  · exact .inl ⟨t, b1, b2, fun H1 e1 => ty H1 (e.trans e1), h1, h2, h3⟩
  · exact .inr h
def spW1 (K : PySem.W.Frag) : Sp := fun vs H Q _ => ∃ (x : V) (t : String) (b1 b2 : Bool), vs = [x] ∧ TyE K H x t ∧ kitB t "int" = some b1 ∧ kitB t "bool" = some b2 ∧ ∀ H', Ex H H' → Q (.bl (b1 && !b2)) H'
section
variable {K : PySem.W.Frag} {H : Hp}
theorem rv_isN {x : V} : RV (fun x y H Q => y = .non ∧ Q (.bl (decide (x = .non))) H) x .non H (.bl (decide (x = .non))) := fun H1 _ _ q => ⟨rfl, q H1 (Ex.refl H1)⟩
end
theorem op_eqE {X : Cx} {K : PySem.W.Frag} (h : X.K = K) (hu : X.A.units + 64 < cLine) : OpR X (compareOp .Eq) (rEqD K) := by
  subst h
  exact op_eqD hu
theorem op_ownBE {X : Cx} {K : PySem.W.Frag} {CX : CXT} {C g : Addr} {n : Nat} {sp : Sp} {E : XK} {op : CmpOp} (hK : X.K = K) (hop : ∀ a b, compareOp op a b = richCompare op a b) (hs : PySem.W.findIn K (.ref C) (cmpInfo op).2.1 = some (some (.ref g))) (hf : PySem.W.isFn K (.ref g) = true)
    (F : FnR X.prog X.w X.K X.mg X.base CX n g sp) (room : Room n X.A) (hx : Passes CX X E) : OpR X (compareOp op) (KD.rOwnB K C sp E) := by
  subst hK
  exact KD.op_ownB hop hs hf F room hx
theorem takes_len {X : Cx} {W : WX} (t : Takes X W) : Takes X (fun c d σ H => σ.length = X.N.length → W c d σ H) := fun u s' ⟨a, B, sI, pins, σ, H, cls, d, e, I, nb, up, sky, na, os, ag, w⟩ => t u s' ⟨a, B, sI, pins, σ, H, cls, d, e, I, nb, up, sky, na, os, ag, w I.len⟩
theorem op_neE {X : Cx} {K : PySem.W.Frag} (h : X.K = K) (hu : X.A.units + 64 < cLine) : OpR X (compareOp .NotEq) (rNeD K) := by
  subst h
  exact op_neD hu
theorem cl_of {K : PySem.W.Frag} {D : Addr} (C : ExcC K D) : (PySem.W.clsIn K D).isSome = true := by
  obtain ⟨cd, hc, _⟩ := PySem.W.any_some C.hd
  rw [hc]
  rfl
section
variable {X : Cx} {K : PySem.W.Frag}
theorem call_isiE (h : X.K = K) : CallR X (.builtin "isinstance") (rIsi K) := by
  subst h
  exact call_isi
theorem call_reprVE (h : X.K = K) (gd : X.A.guards = some []) (hu : X.A.units + 64 < cLine) : CallR X (.builtin "repr") (KD.rReprV K) := by
  subst h
  exact KD.call_reprV gd hu
theorem ix_listE (h : X.K = K) : IxR X (rIxL K) := by
  subst h
  exact ix_list
theorem op_notIn_seqE (h : X.K = K) : OpR X (compareOp .NotIn) (rIn K true) := by
  subst h
  exact op_notIn_seq
end
theorem q_asgRaw {te : TE} {i : Nat} {D : Ends} {tz : TS} {σ : L2.St} {H : Hp} (h : te σ H fun x H1 => tz D (σ.set i (some x)) H1) : tSeq (tAsg te (gName i)) tz D σ H := h
theorem ixN_nat {n j : Nat} (h : j < n) : ixN n ((j : Nat) : Int) = some j := by
  unfold ixN
  rw [if_pos (by omega), if_pos (by omega)]
  rfl
def tMethK (C : Addr) (m : Str) (sp : Sp) (gV : List V → List V → List V) (E : XK) (ta : TE) (tk : TA) : TE := fun σ H Q => ta σ H fun x H1 => ∃ a dx fs, x = .ref a ∧ H1 a = some (.ins C dx fs) ∧ fs.lookup m = none ∧ tk σ H1 fun zs H2 => sp (gV [x] zs) H2 Q E
section
variable {X : Cx} {CX : CXT} {k : Nat} {C p g : Addr} {sp : Sp} {E : XK} {o e : Expr} {es : List Expr} {m : Str} {pos apos : Pos} {ta : TE} {t tk : TA} {fd : FuncData} {ps ks : List Str} {kws : List Keyword} {gg : List Value → List Value → List Value} {gV : List V → List V → List V}
theorem pe_methK {pl : Sem Bool} (he : PE X o ta) (c : Cls X.K C) (hm : Meth X.K C m g) (F : FnOk X.prog X.w X.K X.mg X.base CX k g fd ps sp) (hr : Room k X.A) (hb : KBinds X.K fd ps ks gg gV) (hx : Passes CX X E) (hkw : PK X kws tk)
    (hall : (backToKw pos (keywordEach kws X.env)).all (·.1.isSome) = true := by rfl) (hks : (backToKw pos (keywordEach kws X.env)).filterMap (·.1) = ks := by rfl)
    (hpl : ((backTo pos (starEach [] X.env)).any (·.1) || (backToKw pos (keywordEach kws X.env)).any (·.1.isNone)) = false := by rfl)
    (ht : eval (.Call (.Attribute o m apos) [] kws pos) X.env = (do
      let ov ← eval o X.env
      standAt apos.atName
      let (f, first) ← holding [ov] (getMethod ov m pl)
      callWith pos f first (backTo pos (starEach [] X.env)) (backToKw pos (keywordEach kws X.env))) := by rfl) :
    PE X (.Call (.Attribute o m apos) [] kws pos) (tMethK C m sp gV E ta tk) := by
  refine ⟨fun pins s σ H Q I h => ?_⟩
  refine PySem.W.methodCall_KW (pl := pl) (thn (he.run pins s σ H _ I h) fun u s1 ⟨x, H1, I1, rx, a, dx, fs, ex, ea, l, q⟩ => ?_) ht
  subst ex
  obtain rfl : u = Value.ref a := rx
  refine getmeth_ok I1 ea c hm l ?_
  refine PySem.W.callWith_KW0 (first := [.ref a]) (h₀ := X.base) I1.ok.mod.kin hm.kp hall (thn (hkw.run pos pins s1 σ H1 _ I1 q) fun ws s3 ⟨zs, H2, I3, rz, q2⟩ => ⟨I3.kIn, ?_⟩) hpl
  rw [hks]
  exact run_fnk (us := [.ref a]) (vs := [.ref a]) F hr hb hx I3 (.cons rfl .nil) rz q2
end
namespace Ne
open PySem PySem.W
variable {M : Model} {prog : Program} {w : World} {A : Around} {E : Value → Shared → Prop} {s : Shared} {K : Frag} {x C f : Addr} {ox : Obj} {od : Option Obj}
theorem ifBound_ne {args : List Value} {Q : Option Value → Shared → Prop} (X : K.In s.heap) (I : InstAt s.heap x ox C od) (hs : findIn K (.ref C) "__ne__" = some (some (.builtin "object.__ne__")))
    (h : wpAny M A (call (.builtin "object.__ne__") (.ref x :: args)) (fun v => Q (some v)) E s) : wpAny M A (callSpecialIfBound? (.ref x) "__ne__" args) Q E s := by
  simp only [callSpecialIfBound?, bindSpecialIfBound?]
  refine wpAny_holding (wpAny_bind (wpAny_bind (wpAny_bind (I.type.here ((looks_findIn X hs).here ?_)))))
  refine wpAny_bind (wpAny_askSetting (wpAny_ite ?_))
  have done_ : wpAny M A (call (.builtin "object.__ne__") ([.ref x] ++ args) >>= fun v => pure (some v)) Q E s := wpAny_bind (wpAny_mono h (fun v s' h' => wpAny_pure h') fun _ _ h' => h')
  split
  · exact wpAny_bind (wpAny_of_eq (F.cmp_object.ne.bind _) (wpAny_pure (by exact done_)))
  · exact wpAny_tryCatch (wpAny_bind (wpAny_of_eq (F.cmp_object.ne.bind _) (wpAny_pure (by exact done_))))
theorem entry_ne {y : Value} {Q : Fin → Shared → Prop} (hu : A.units < cLine) (X : K.In s.heap) (I : InstAt s.heap x ox C od) (hs : findIn K (.ref C) "__eq__" = some (some (.ref f))) (hf : isFn K (.ref f) = true)
    (h : wpAny M A (call (.ref f) [.ref x, y]) (fun v s' => ∃ b, v = .bool b ∧ Q (.done (.ret (.bool (!b)))) s') E s) : wpAny M A (Builtin.«object.__ne__» ⟨[.ref x, y], []⟩) Q E s := by
  unfold Builtin.«object.__ne__»
  repeat (first
    | with_reducible refine wpAny_cRoomFor hu ?_
    | (refine wpAny_bind (m := callSpecialIfBound? (.ref x) (Str.ofString "__eq__") [y]) (ifBound_K X I hs hf (wpAny_mono h (fun r s' hr => by
          obtain ⟨b, rfl, hq⟩ := hr
          repeat (first | exact hq | exact wpAny_pure hq | exact wpAny_truthy_bool hq | (refine wpAny_bind (m := truthy (.bool _)) (wpAny_truthy_bool ?_)) | wp_step)) fun _ _ e => e)))
    | wp_step)
theorem rich_ne {y : Value} {Q : Value → Shared → Prop} (hu : A.units + 1 < cLine) (X : K.In s.heap) (I : InstAt s.heap x ox C od) (hy : Looks (model prog w) s.heap (typeOf y) (.ref C)) (hm : mroIn K C (.type "object") = some true)
    (hn : findIn K (.ref C) "__ne__" = some (some (.builtin "object.__ne__"))) (hs : findIn K (.ref C) "__eq__" = some (some (.ref f))) (hf : isFn K (.ref f) = true)
    (h : wpAny (model prog w) A.in1 (call (.ref f) [.ref x, y]) (fun v s' => ∃ b, v = .bool b ∧ Q (.bool (!b)) s') E s) : wpAny (model prog w) A (richCompare .NotEq (.ref x) y) Q E s := by
  have one : wpAny (model prog w) A (tryCompare (.ref x) "__ne__" y) (fun r s' => ∃ b, r = some (.bool b) ∧ Q (.bool b) s') E s := by
    unfold tryCompare
    refine wpAny_bind (ifBound_ne X I hn (wpAny_call (codeAny_call_builtin F.cmp_object.ne.plain F.cmpEntry_ne (check_slot F.cmpKind_ne F.cmpSplit_ne (I.type.andThen (looks_mroIn X hm)) (F.cmpArgs_ne _ _)
      (entry_ne (A := A.in1) (y := y) hu X I hs hf (wpAny_mono h (fun v s' hv => ?_) fun _ _ e => e))))))
    obtain ⟨b, rfl, hq⟩ := hv
    first | exact ⟨b, rfl, wpAny_pure ⟨!b, rfl, hq⟩⟩ | exact ⟨b, rfl, wpAny_pure (wpAny_pure ⟨!b, rfl, hq⟩)⟩ | exact ⟨b, rfl, ⟨!b, rfl, hq⟩⟩
  unfold richCompare
  simp only [oneThing_ref]
  refine wpAny_holding (wpAny_bind (wpAny_cRoomFor (Nat.lt_of_succ_lt hu) ?_))
  rw [cmpInfo_NotEq]
  dsimp only
  refine wpAny_bind (I.type.here (wpAny_bind (hy.here ?_)))
  rw [show (Value.ref C != Value.ref C) = false from by simp]
  simp only [Bool.false_eq_true, if_false]
  refine wpAny_bind (wpAny_pure ?_)
  simp only [Bool.false_eq_true, if_false]
  refine wpAny_bind (wpAny_mono one (fun r s' z => ?_) fun _ _ e => e)
  obtain ⟨b, rfl, hq⟩ := z
  first | exact wpAny_pure hq | exact wpAny_pure (wpAny_pure hq)
end Ne
open PySem
def rOwnNe (C : Addr) (sp : Sp) (E : XK) : R2 := fun x y H Q => ∃ (p dx : Addr) (fs : List (Str × V)) (q dy : Addr) (gs : List (Str × V)), x = .ref p ∧ y = .ref q ∧ H p = some (.ins C dx fs) ∧ H q = some (.ins C dy gs) ∧ sp [x, y] H (fun v H' => ∃ b, v = .bl b ∧ Q (.bl (!b)) H') E
section
variable {X : Cx} {CX : CXT} {C g : Addr} {n : Nat} {sp : Sp} {E : XK}
theorem op_ownNe (hn : PySem.W.findIn X.K (.ref C) "__ne__" = some (some (.builtin "object.__ne__"))) (hm : PySem.W.mroIn X.K C (.type "object") = some true) (hs : PySem.W.findIn X.K (.ref C) "__eq__" = some (some (.ref g))) (hf : PySem.W.isFn X.K (.ref g) = true)
    (F : FnR X.prog X.w X.K X.mg X.base CX n g sp) (room : Room (n + 1) X.A) (hx : Passes CX X E) : OpR X (compareOp .NotEq) (rOwnNe C sp E) := by
  intro pins s σ H x y v u Q I rx ry told
  obtain ⟨p, dx, fs, q, dy, gs, rfl, rfl, hp, hq, want⟩ := told
  obtain rfl : v = Value.ref p := rx
  obtain rfl : u = Value.ref q := ry
  obtain ⟨o1, d1, J1, _⟩ := StX.insC_at (X := X) I (.inr ⟨dx, fs, hp⟩)
  obtain ⟨o2, d2, J2, _⟩ := StX.insC_at (X := X) I (.inr ⟨dy, gs, hq⟩)
  have hu : X.A.units + 1 < cLine := by have := room.units; omega
  show wpAny (model X.prog X.w) X.A (richCompare .NotEq (.ref p) (.ref q)) _ _ _
  refine Ne.rich_ne hu I.kIn J1 J2.type hm hn hs hf (wpAny_mono (wpAny_call (SlX.run_at (us := [.ref p, .ref q]) (ws := [.ref p, .ref q]) F room.in1 I.env0.in1 hx I (.cons rfl (.cons rfl .nil)) want)) (fun r s' got => ?_) fun _ _ same => same)
  obtain ⟨z, H', I', rz, b, rfl, want2⟩ := got
  obtain rfl : r = Value.bool b := rz
  exact ⟨b, rfl, .bl (!b), H', I', rfl, want2⟩
end
section
variable {X : Cx} {CX : CXT} {C g : Addr} {n : Nat} {sp : Sp} {E : XK} {fd : FuncData} {ps : List Str}
theorem callK_of {M : Model} {A : Around} {E : Value → Shared → Prop} {s : Shared} {a : Addr} {pos : Pos} {Q : Value → Shared → Prop} {args : List (Bool × Sem Value)} {kws : List (Option Str × Sem Value)} (hplain : (args.any (·.1) || kws.any (·.1.isNone)) = false)
    (h : wpAny M A (evalArgs (.ref a) true args kws) (fun z s₁ => (∃ C ox od, PySem.W.InstAt s₁.heap a ox C od ∧ ox.data = .plain) ∧ wpAny M A (call (.ref a) ([] ++ z.pos) z.kw) Q E s₁) E s) : wpAny M A (callWith pos (.ref a) [] args kws) Q E s := by
  unfold callWith
  refine wpAny_bind (wpAny_holding (wpAny_mono h (fun got s2 there => wpAny_bind (wpAny_standAt ?_)) fun _ _ same => same))
  obtain ⟨⟨C, ox, od, J, hd⟩, go⟩ := there
  simp only [hplain]
  refine wpAny_bind ((PySem.W.kco_keeper (M := M) J hd).here ?_)
  exact wpAny_bind (wpAny_mono (wpAny_operateT go) (fun r s₂ hr => wpAny_bind (wpAny_holding (wpAny_point (wpAny_pure hr)))) fun _ _ y => y)
def tCallOK (C : Addr) (sp : Sp) (gV : List V → List V → List V) (E : XK) (tf : TE) (tk : TA) : TE := fun σ H Q => tf σ H fun y H1 => ∃ p, y = V.ref p ∧ tk σ H1 fun zs H2 => (∃ dx fs, H2 p = some (.ins C dx fs)) ∧ sp (gV [.ref p] zs) H2 Q E
theorem pe_callOK {fe : Expr} {pos : Pos} {kws : List Keyword} {tf : TE} {tk : TA} {ks : List Str} {gg : List Value → List Value → List Value} {gV : List V → List V → List V} (hf : PE X fe tf) (c : StX.CallO X.K C g) (F : FnOk X.prog X.w X.K X.mg X.base CX n g fd ps sp) (hr : Room n X.A) (hb : KBinds X.K fd ps ks gg gV) (hx : Passes CX X E)
    (hkw : PK X kws tk) (hall : (backToKw pos (keywordEach kws X.env)).all (·.1.isSome) = true := by rfl) (hks : (backToKw pos (keywordEach kws X.env)).filterMap (·.1) = ks := by rfl)
    (hpl : ((backTo pos (starEach [] X.env)).any (·.1) || (backToKw pos (keywordEach kws X.env)).any (·.1.isNone)) = false := by rfl)
    (ht : eval (.Call fe [] kws pos) X.env = (do callWith pos (← eval fe X.env) [] (backTo pos (starEach [] X.env)) (backToKw pos (keywordEach kws X.env))) := by rfl) : PE X (.Call fe [] kws pos) (tCallOK C sp gV E tf tk) := by
  refine ⟨fun pins s σ H Q I h => ?_⟩
  rw [ht]
  refine wpAny_bind (thn (hf.run pins s σ H _ I h) fun u s1 ⟨y, H1, I1, ry, p, ey, q⟩ => ?_)
  subst ey
  obtain rfl : u = Value.ref p := ry
  refine callK_of hpl (PyProof.Rows.evalArgs_kw2_nil hall (thn (hkw.run pos pins s1 σ H1 _ I1 q) fun ws s2 ⟨zs, H2, I2, rz, ⟨dx, fs, hi⟩, q2⟩ => ?_))
  obtain ⟨ox, od, J, hd⟩ := StX.insC_at (X := X) I2 (.inr ⟨dx, fs, hi⟩)
  refine ⟨⟨C, ox, od, J, hd⟩, ?_⟩
  rw [hks]
  have r2 := hb.rel (vs := [.ref p]) (us := [.ref p]) (.cons rfl .nil) rz
  have hl : (gg [.ref p] ws).length = ps.length := by rw [← r2.length]; exact F.len _ _ _ _ q2
  refine wpAny_call (PySem.W.kco_code (a := ⟨[] ++ [], ks.zip ws⟩) I2.kIn J hd c.at_ c.fn c.fi (codeAny_mono (F.run X.A X.stack s2 H2 ⟨[.ref p], ks.zip ws⟩ (gg [.ref p] ws) (gV [.ref p] zs) Q E hr I2.env0 (hb.to s2 [.ref p] ws I2.kIn hl) r2 q2) fun r s' hq => ?_))
  cases r with
  | error e => exact hx pins σ H2 s2 e s' I2 hq
  | ok fl =>
    cases fl with
    | ret u => exact I2.after hq
    | next => exact False.elim hq
    | brk => exact False.elim hq
    | cont => exact False.elim hq
end
theorem two {p : Addr → Prop} {c1 c2 : Addr} (a1 : p c1) (a2 : p c2) : ∀ c ∈ [c1, c2], p c := List.forall_mem_cons.mpr ⟨a1, List.forall_mem_cons.mpr ⟨a2, List.forall_mem_nil _⟩⟩
theorem off2 {c c1 c2 : Addr} (h : c ∉ [c1, c2]) : c ≠ c1 ∧ c ≠ c2 := by
  simp only [List.mem_cons, List.not_mem_nil, or_false, not_or] at h
  exact h
/-! the items of a tuple, counted -/
theorem enum1_meets {v : Value} {o : Obj} {St : Heap → Prop} (B : Begins v o St) : Meets (Builtin.«enumerate.__new__» ⟨[.type "enumerate", v], []⟩) (fun _ R s => St s.heap ∧
    R (.ok (.ret (.ref (s.heap.push o).objs.size))) { s with heap := (s.heap.push o).push { cls := .type "enumerate", data := .fields #[.none, .bool false, .ref s.heap.objs.size, rawInt 0, .none, .none] } }) :=
  .of_wp fun prog w A R ⟨hp, gn, dr, tk, os⟩ ⟨st, go⟩ => by
    have is_a := sub_enumerate
    have it1 : ∀ {A' : Around} {E Q : Value → Shared → Prop}, Q (.ref hp.objs.size) ⟨hp.push o, gn, dr, tk, os⟩ → wpAny (model prog w) A' (pyIter v) Q E ⟨hp, gn, dr, tk, os⟩ := fun q => B.iter prog w _ _ ⟨hp, gn, dr, tk, os⟩ _ st q
    wp_walk using it1
    refine wpAny_stack_any fun stack => wpAny_pure ?_
    split
    · rename_i c _ _ _ _ _
      cases (c == Value.type "enumerate") <;> (wp_walk using it1; exact ⟨_, rfl, go⟩)
    · wp_walk using it1
      exact ⟨_, rfl, go⟩
structure CountTo (b e it : Addr) (i : Nat) (h : Heap) : Prop where
  en : ∃ old, IsEnum h e it (i : Int) old
  tup : h.IsTupleIter it b i
section
variable {b e it : Addr} {i : Nat} {h h' : Heap}
theorem CountTo.obj (q : CountTo b e it i h) : ∀ c ∈ [e, it], ∃ o, h.get? c = some o ∧ ∀ v, o.data ≠ .cell v := by
  obtain ⟨old, he⟩ := q.en
  obtain ⟨p1, g1, _, n1⟩ := q.tup
  exact two ⟨_, he, nofun⟩ ⟨p1, g1, by rw [n1]; exact nofun⟩
theorem CountTo.lt (q : CountTo b e it i h) : ∀ c ∈ [e, it], c < h.objs.size := fun c m => let ⟨_, g, _⟩ := q.obj c m; Heap.lt_size g
theorem CountTo.keep (q : CountTo b e it i h) (k : ∀ c ∈ [e, it], ∀ o, h.get? c = some o → h'.get? c = some o) : CountTo b e it i h' := by
  obtain ⟨old, he⟩ := q.en
  refine ⟨⟨old, k e ?_ _ he⟩, q.tup.at fun o e => k it ?_ o e⟩ <;> simp
end
def ItEt (K : PySem.W.Frag) (b : Addr) : It :=
  ⟨fun i H => ∃ (ys : List V) (y : V), SqT K H b ys ∧ ys[i]? = some y, fun i H v H' => ∃ (T : Addr) (y : V), v = .ref T ∧ H T = none ∧ H' = upd H T (.tup [.int (i : Nat), y]) ∧ ∀ ys, SqT K H b ys → ys[i]? = some y, fun i H => ∃ ys : List V, SqT K H b ys ∧ i = ys.length⟩
theorem turn_enT {P : Program} {w : World} {K : PySem.W.Frag} {elts : List Expr} {kk : Nat} {tpos : Pos} {b e it : Addr} (ne : e ≠ it) (hb : b ≠ it) (hbe : e ≠ b) :
    Turn P w K (.Tuple elts kk tpos) (ItEt K b) [e, it] e (CountTo b e it) where
  mem := List.mem_cons_self ..
  obj := fun _ _ q => q.obj
  keep := fun _ _ _ q k => q.keep k
  self := fun _ _ _ _ _ q k => let ⟨_, he⟩ := q.en; wpAny_pyIter_enum he k
  item := by
    intro X e1 e2 e3 calm i pins s σ H E I free st more
    subst e1 e2 e3
    have quiet : X.A.in1.handled = none := I.ok.hd calm
    obtain ⟨ys, y, seq, hy⟩ := more
    obtain ⟨us, ru, isT, _⟩ := I.tuple seq
    obtain ⟨u, hu, ry⟩ := ru.get hy
    obtain ⟨old, he⟩ := st.en
    have in1 : i < us.toArray.size := by simpa using (List.getElem?_eq_some_iff.mp hu).1
    refine wpAny_pyNext_enum_itemC (Draws.tuple quiet it b hb us.toArray) he ⟨st.tup, isT⟩ in1 ne (fun m => by
      rcases List.mem_cons.mp m with z | m
      · exact ne z
      · exact hbe (List.mem_singleton.mp m)) fun w1 g tk src out s1 gT _ rest => ?_
    obtain rfl : u = w1 := Option.some.inj ((show us.toArray[i]? = some u by simpa using hu).symm.trans src)
    have elt := st.lt e (List.mem_cons_self ..)
    refine ⟨_, rfl, wpAny_letOwnedTupleGo_enum (s := { s with heap := g, toks := tk + 1 }) out fun g' en' but => ?_⟩
    have gT' := (but.2 _ (Nat.ne_of_gt elt)).trans gT
    have pair : ObjOk X.prog X.w (upd H s.heap.objs.size (.tup [.int (i : Nat), y])) g' s.heap.objs.size (.tup [.int (i : Nat), y]) := ⟨by show 2 ≤ sizeLine; decide, [.int (i : Nat) tk, u], .cons ⟨tk, rfl⟩ (.cons ry .nil), ⟨_, gT', rfl, _, rfl⟩⟩
    have far : ∀ c' o, c' ∉ [e, it] → s.heap.get? c' = some o → g'.get? c' = some o := fun c' o n q => by
      obtain ⟨n1, n2⟩ := off2 n
      exact (but.2 c' n1).trans (rest c' o n1 n2 q)
    refine ⟨.ref s.heap.objs.size, _, I.turnedNew (t' := tk + 1) (ch := [e, it]) far free (Nat.le_refl _) pair, rfl, ⟨_, y, rfl, I.hok.fresh (Nat.le_refl _), rfl, fun l hl => by rw [I.tuple_inj hl seq]; exact hy⟩, ?_, fun c' m => ?_⟩
    · refine ⟨⟨u, ?_⟩, s1.1.at fun o q => (but.2 _ ne.symm).trans q⟩
      rw [show ((i + 1 : Nat) : Int) = (i : Int) + 1 by omega]
      exact en'
    · exact (upd_ne (Nat.ne_of_lt (st.lt c' m))).trans (free c' m).1
  done := by
    intro X e1 e2 e3 calm i pins s σ H E I free st over
    subst e1 e2 e3
    obtain ⟨ys, seq, rfl⟩ := over
    obtain ⟨us, ru, isT, _⟩ := I.tuple seq
    have quiet : X.A.in1.handled = none := I.ok.hd calm
    have size : us.toArray.size = ys.length := by rw [ru.length]; simp
    obtain ⟨old, he⟩ := st.en
    refine wpAny_pyNext_enum_endD (Draws.tuple quiet it b hb us.toArray) he ⟨?_, isT⟩ fun g rest => ⟨rfl, I.turnedL (t' := s.toks) (ch := [e, it]) (fun c o n q => rest c o (off2 n).2 q) free⟩
    rw [size]
    exact st.tup
def iEnT (K : PySem.W.Frag) (te : TE) : TI := fun σ H R => te σ H fun v H1 => ∃ b ys, v = .ref b ∧ SqT K H1 b ys ∧ R (ItEt K b) H1
theorem pi_enT {X : Cx} {d : Expr} {te : TE} {p pos tpos : Pos} {elts : List Expr} {kk : Nat} (hg : Gl X "enumerate") (hm : X.mg "enumerate" = none) (ha : PE X d te) (flat : starEach [d] X.env = (false, eval d X.env) :: starEach [] X.env := by rfl)
    (plain : (backTo pos (starEach [] X.env)).any (·.1) = false := by rfl) : PI X (.Tuple elts kk tpos) (.Call (.Name "enumerate" p) [d] [] pos) (iEnT X.K te) where
  run := fun pins s σ H R I start => by
    have one : PA X [d] (tCons te tNil) := pa_cons (hs := flat) ha pa_nil
    refine Call_ (ld_blt I hg hm PyProof.Rows.boot_enumerate (PyProof.Rows.callWith_type1 (thn (one.run pos pins s σ H (fun vs H1 => ∃ b ys, vs = [.ref b] ∧ SqT X.K H1 b ys ∧ R (ItEt X.K b) H1) I ?st) fun us s1 ⟨vs, H1, J, r, q⟩ => ?_) flat plain))
    case st =>
      show te σ H fun v H1 => ∃ b ys, [v] = [V.ref b] ∧ SqT X.K H1 b ys ∧ R (ItEt X.K b) H1
      have : (fun v H1 => ∃ b ys, v = V.ref b ∧ SqT X.K H1 b ys ∧ R (ItEt X.K b) H1) = fun v H1 => ∃ b ys, [v] = [V.ref b] ∧ SqT X.K H1 b ys ∧ R (ItEt X.K b) H1 := by
        funext v H1
        simp
      rw [← this]
      exact start
    obtain ⟨b, ys, ev, seq, go⟩ := q
    subst ev
    cases r with | cons q1 q2 => ?_
    cases q2
    cases q1
    obtain ⟨ws, _, isT, _⟩ := J.tuple seq
    have bl : b < s1.heap.objs.size := let ⟨_, ho, _⟩ := id isT; Heap.lt_size ho
    have young : ∀ j, FpOk X pins H1 (s1.heap.objs.size + j) := fun j => J.fpOk (Nat.le_add_right ..) (J.hok.fresh (Nat.le_add_right ..))
    refine callType_new F.called_enumerate (by decide) (F.typeCall_enumerate_1 _) (F.newCall_enumerate_1 _) (fun obj => F.args_object_init_2 obj _) F.entry_enumerate_new (enum1_meets (begins_tuple b ws.toArray)) ⟨show s1.heap.IsTuple b ws.toArray from isT, ?_⟩
    have size : (s1.heap.push { cls := .type "tuple_iterator", data := .fields #[.ref b, .int 0 0] }).objs.size = s1.heap.objs.size + 1 := Heap.size_push ..
    show _ ∧ _
    rw [size]
    have new := Heap.get?_push_size (s1.heap.push { cls := .type "tuple_iterator", data := .fields #[.ref b, .int 0 0] }) (o := { cls := .type "enumerate", data := .fields #[.none, .bool false, .ref s1.heap.objs.size, rawInt 0, .none, .none] }) rfl
    rw [size] at new
    refine ⟨⟨_, new, rfl⟩, wpAny_pyIter_enum new ?_⟩
    exact ⟨s1.heap.objs.size + 1, _, CountTo b (s1.heap.objs.size + 1) s1.heap.objs.size, ItEt X.K b, H1, rfl, J.kept (t' := s1.toks) fun c o q => Heap.get?_push_of_some _ (Heap.get?_push_of_some _ q), turn_enT (Nat.succ_ne_self _) (Nat.ne_of_lt bl) (Nat.ne_of_gt (Nat.lt_succ_of_lt bl)), ⟨⟨_, new⟩, ⟨_, Heap.get?_push_of_some _ (Heap.get?_push_size _ rfl), rfl, rfl⟩⟩, two (young 1) (young 0), go⟩

end KF
set_option Elab.async false
set_option linter.all false
set_option maxRecDepth 100000
set_option maxHeartbeats 4000000
namespace KF
open PySem PySem.Spec PyProof.Rows L2 Evl
/-! ### sums of tuples of bools; slices, sums, comprehensions of tuples; divmod -/
theorem pre_bools (bs : List Bool) : ∀ n, n ≤ bs.length → preSum (fun i => if bs.getD i false = true then 1 else 0) n = (upTo (fun i => bs.getD i false) n : Nat)
  | 0, _ => rfl
  | n + 1, h => by
    rw [preSum, pre_bools bs n (by omega), upTo_succ]
    split <;> simp
def rSumB (K : PySem.W.Frag) : List V → Hp → VK → Prop := fun vs H Q => ∃ (a : Addr) (bs : List Bool), vs = [V.ref a] ∧ SqT K H a (bs.map V.bl) ∧ Q (.int (cnt bs : Nat)) H
theorem call_sumB {X : Cx} (hc : X.calm = true) : CallR X (.builtin "sum") (rSumB X.K) := by
  intro pins s σ H vs us Q I r h
  obtain ⟨a, bs, rfl, hs, q⟩ := h
  obtain ⟨its, rv, ht, _⟩ := I.tuple hs
  rw [Vals.ref1 r]
  have hb := rv.bls
  have ht : s.heap.IsTuple a its.toArray := ht
  obtain ⟨o, ho, hcl, n, hd⟩ := id ht
  have hne : a ≠ s.heap.objs.size := Nat.ne_of_lt (Heap.lt_size ho)
  have hsz : its.toArray.size = bs.length := by rw [hb]; simp
  have W := (Walks.tuple (prog := X.prog) (w := X.w) (A := X.A.in1) (I.ok.hd hc) s.heap.objs.size a hne its.toArray).toS
  rw [hsz] at W
  refine call_sum_walkAnyB (wpAny_pyIter_tuple ht ?_)
  refine ⟨s.heap.objs.size, _, _, _, _, _, _, fun i => if bs.getD i false = true then 1 else 0, rfl, W, ⟨⟨_, Heap.get?_push_size _ rfl, rfl, rfl⟩, ht.at fun o e => Heap.get?_push_of_some _ e⟩, fun b hb => ?_, fun i v hP => ?_, fun s' t' hm => ?_⟩
  · rcases List.mem_cons.mp hb with rfl | hb
    · exact Heap.lt_size (Heap.get?_push_size _ rfl)
    · obtain rfl := List.mem_singleton.mp hb
      exact Heap.lt_size (Heap.get?_push_of_some _ ho)
  · have hv' : its[i]? = some v := by simpa using hP
    rw [hb, List.getElem?_map] at hv'
    obtain ⟨b, hb2, rfl⟩ := Option.map_eq_some_iff.mp hv'
    exact .inr ⟨b, rfl, by
      show (if bs.getD i false = true then (1 : Int) else 0) = _
      rw [List.getD_eq_getElem?_getD, hb2] <;> rfl⟩
  · obtain ⟨h', g', d', tk', os'⟩ := s'
    have e1 : g' = s.gens := hm.gens
    have e2 : d' = s.drawn := hm.drawn
    have e3 : os' = s.os := hm.os
    subst e1 e2 e3
    refine ⟨.int _, H, I.kept fun b o e => hm.heap b o (fun hb => absurd (Heap.lt_size e) ((List.mem_singleton.mp hb) ▸ Nat.lt_irrefl _)) (Heap.get?_push_of_some _ e), ⟨_, rfl⟩, ?_⟩
    rw [pre_bools bs _ (Nat.le_refl _), upTo_take bs _ (Nat.le_refl _), List.take_length]
    exact q
/-- a tuple, made or old -/
def EvX (te : TE) (σ : L2.St) (H : Hp) (xs : List V) : Prop := ∀ H1, Ex H H1 → ∀ Q : VK, (∀ p H2, Ex H1 H2 → H2 p = some (.tup xs) → Q (.ref p) H2) → te σ H1 Q
section
variable {σ : L2.St} {K : PySem.W.Frag} {H H' : Hp} {tx te ta tb tv : TE} {u t : TT} {v x y z : V} {r : R2} {D : Ends} {tz : TS}
theorem ew_of {p : Addr} {xs : List V} (h : Ev te σ H (.ref p)) (hp : H p = some (.tup xs)) : EvX te σ H xs := fun H1 e Q q => h H1 e _ fun H2 e2 => q p H2 e2 ((e.trans e2) _ _ hp)
theorem ew_u {xs : List V} (h : EvU te σ H xs) : EvX te σ H xs := fun H1 e Q q => h H1 e _ fun p H2 _ e2 h2 => q p H2 e2 h2
theorem ew_is {xs ys : List V} (h : EvX te σ H xs) (e : xs = ys) : EvX te σ H ys := e ▸ h
theorem cut_whole {xs : List V} {lo hi : Option Int} (h : HT.sIx xs.length 0 lo = 0 ∧ HT.sIx xs.length xs.length hi = xs.length) : cutV xs lo hi = xs := by
  unfold cutV
  rw [h.1, h.2, List.drop_zero, Nat.sub_zero, List.take_length]
/-- t[lo:hi] -/
theorem ew_sl {tl th : TO} {lo hi : Option Int} {xs : List V} (h : EvX te σ H xs) (h1 : EvO tl σ H lo) (h2 : EvO th σ H hi) : EvX (tSl (rSlA K) te tl th) σ H (cutV xs lo hi) := fun H1 e Q q =>
  h H1 e _ fun p H2 e2 hp => h1 H2 (e.trans e2) _ fun H3 e3 => h2 H3 ((e.trans e2).trans e3) _ fun H4 e4 => ⟨p, xs, rfl, st_of ((e3.trans e4) _ _ hp), fun hw => q p H4 ((e2.trans e3).trans e4) (by rw [cut_whole hw]; exact (e3.trans e4) _ _ hp), fun _ l hl => q l _ (((e2.trans e3).trans e4).trans (Ex.new hl)) upd_same⟩
/-- t + u -/
theorem ew_cat {xs ys : List V} (h1 : EvX ta σ H xs) (h2 : EvX tb σ H ys) (hz : xs.length + ys.length ≤ 100000) : EvX (tOp (rCatA K) ta tb) σ H (xs ++ ys) := fun H1 e Q q =>
  h1 H1 e _ fun p H2 e2 hp => h2 H2 (e.trans e2) _ fun l H3 e3 hl => ⟨p, l, xs, ys, rfl, rfl, st_of (e3 _ _ hp), st_of hl, sz_of hz, fun n => q l H3 (e2.trans e3) (by rw [n]; exact hl), fun _ n => q p H3 (e2.trans e3) (by rw [n, List.append_nil]; exact e3 _ _ hp), fun _ _ a ha => q a _ ((e2.trans e3).trans (Ex.new ha)) upd_same⟩
theorem ev_sumB {bs : List Bool} (h : EvX te σ H (bs.map V.bl)) : Ev (tCB (rSumB K) (tCons te tNil)) σ H (.int (cnt bs : Nat)) := fun H1 e Q q => h H1 e _ fun p H2 e2 hp => ⟨p, bs, rfl, st_of hp, q H2 e2⟩
theorem el_listW {xs : List V} (h : EvX te σ H xs) : EvL (tCB (fun xs H Q => ∃ p ys, xs = [V.ref p] ∧ (SqL K H p ys ∨ SqT K H p ys) ∧ ∀ l, H l = none → Q (.ref l) (upd H l (.lst ys))) (tCons te tNil)) σ H xs := fun H1 e Q q =>
  h H1 e _ fun p H2 e2 h2 => ⟨p, xs, rfl, .inr (st_of h2), fun l hl => q l _ (fresh_back e2 hl) (e2.trans (Ex.new hl)) upd_same⟩
theorem ev_lenW {xs : List V} (h : EvX te σ H xs) : Ev (tCB (fun xs H Q => ∃ p ys, xs = [V.ref p] ∧ (SqL K H p ys ∨ SqT K H p ys) ∧ Q (.int (ys.length : Nat)) H) (tCons te tNil)) σ H (.int (xs.length : Nat)) := fun H1 e Q q =>
  h H1 e _ fun p H2 e2 h2 => ⟨p, xs, rfl, .inr (st_of h2), q H2 e2⟩
theorem ev_lenN {xs : List V} (h : EvL te σ H xs) : Ev (tCB (fun xs H Q => ∃ p ys, xs = [V.ref p] ∧ (SqL K H p ys ∨ SqT K H p ys) ∧ Q (.int (ys.length : Nat)) H) (tCons te tNil)) σ H (.int (xs.length : Nat)) := fun H1 e Q q =>
  h H1 e _ fun p H2 _ e2 h2 => ⟨p, xs, rfl, .inl (sq_of h2), q H2 e2⟩
/-- a comprehension over a tuple, made or old -/
theorem el_lcW {xs : List V} {tl : TE} {j : Nat} {vs : List Nat} (f : Nat → Bool) (v : Nat → V) (h : EvX tl σ H xs) (hz : xs.length ≤ 40000) (hw : ∀ x, wipe ((wipe σ vs).set j (some x)) vs = wipe σ vs)
    (ht : ∀ (i : Nat) (x : V) H1, Ex H H1 → xs[i]? = some x → EvT t ((wipe σ vs).set j (some x)) H1 (f i)) (he : ∀ (i : Nat) (x : V) H1, Ex H H1 → xs[i]? = some x → f i = true → Ev te ((wipe σ vs).set j (some x)) H1 (v i)) :
    EvL (tLc (iTup K tl) (gName j) t te vs) σ H (given xs.length f v) := fun H0 e Q q => h H0 e _ fun a H1 e1 hx => ⟨a, rfl, ⟨xs, st_of hx⟩, fun Dl hD =>
  lc_tup (xs := xs) (Cw H1 f v Dl) ⟨hD, Ex.new hD, upd_same⟩ (fun i H' _ p => st_of (p.2.1 _ _ hx)) (fun i x H' hi p => ⟨hw x, cw_turn p (by have := (List.getElem?_eq_some_iff.mp hi).1; omega) (ht i x H1 (e.trans e1) hi) (fun hf => he i x H1 (e.trans e1) hi hf)⟩)
    (fun H' p => q Dl H' (fresh_back e1 p.1) (e1.trans p.2.1) p.2.2)⟩
/-- a comprehension over enumerate(tuple) -/
theorem el_lcEn {b : Addr} {ys : List V} {tl : TE} {i1 i2 : Nat} {vs : List Nat} (f : Nat → Bool) (v : Nat → V) (h : Ev tl σ H (.ref b)) (hb : SqT K H b ys) (hz : ys.length ≤ 40000)
    (hw : ∀ x y, wipe (((wipe σ vs).set i1 (some x)).set i2 (some y)) vs = wipe σ vs)
    (ht : ∀ (i : Nat) (y : V) H1, Ex H H1 → ys[i]? = some y → EvT t (((wipe σ vs).set i1 (some (.int (i : Nat)))).set i2 (some y)) H1 (f i)) (he : ∀ (i : Nat) (y : V) H1, Ex H H1 → ys[i]? = some y → f i = true → Ev te (((wipe σ vs).set i1 (some (.int (i : Nat)))).set i2 (some y)) H1 (v i)) :
    EvL (tLc (iEnT K tl) (gTup K 2 (gCons (gName i1) (gCons (gName i2) gNil))) t te vs) σ H (given ys.length f v) := fun H0 e Q q => h H0 e _ fun H1 e1 => ⟨b, ys, rfl, ex_t (e.trans e1) hb, fun Dl hD =>
  ⟨fun i m H' => m = ys.length - i ∧ i ≤ ys.length ∧ Cw H1 f v Dl i H', ⟨ys.length, by simp, Nat.zero_le _, hD, Ex.new hD, upd_same⟩, by
    rintro i m H' ⟨rfl, hi, p⟩
    have hb' : SqT K H' b ys := ex_t ((e.trans e1).trans p.2.1) hb
    by_cases hlt : i < ys.length
    · refine .inr ⟨⟨ys, ys[i], hb', by simp [hlt]⟩, Cw H1 f v Dl (i + 1), fun H2 p' => ⟨ys.length - (i + 1), by omega, rfl, hlt, p'⟩, ?_⟩
      rintro x H2 ⟨T, y, rfl, hT, rfl, hy⟩
      have hy' := hy ys hb'
      have e2 : Ex H' (upd H' T (.tup [.int (i : Nat), y])) := Ex.new hT
      have p' : Cw H1 f v Dl i (upd H' T (.tup [.int (i : Nat), y])) := ⟨p.1, p.2.1.trans e2, e2 _ _ p.2.2⟩
      exact ⟨T, _, rfl, st_of upd_same, rfl, _, _, rfl, _, _, rfl, rfl, hw _ _, cw_turn p' (by omega) (ht i y H1 (e.trans e1) hy') (fun hf => he i y H1 (e.trans e1) hy' hf)⟩
    · have e2 : i = ys.length := by omega
      subst e2
      exact .inl ⟨⟨ys, hb', rfl⟩, q Dl H' (fresh_back e1 p.1) (e1.trans p.2.1) p.2.2⟩⟩⟩
/-- a, b = divmod(x, y) -/
theorem q_divmod {i j : Nat} {a b : Int} (h1 : Ev ta σ H (.int a)) (h2 : Ev tb σ H (.int b)) (h0 : 0 < b) (hb : b < 1073741824) (k : ∀ H1, Ex H H1 → tz D ((σ.set i (some (.int (a / b)))).set j (some (.int (a % b)))) H1) :
    tSeq (tAsg (tCB (fun xs H Q => ∃ i j, xs = [V.int i, V.int j] ∧ CDiv i j ∧ ∀ p, H p = none → Q (.ref p) (upd H p (.tup [.int (i / j), .int (i % j)]))) (tCons ta (tCons tb tNil))) (gTup K 2 (gCons (gName i) (gCons (gName j) gNil)))) tz D σ H :=
  h1 H (Ex.refl H) _ fun H1 e1 => h2 H1 e1 _ fun H2 e2 => ⟨a, b, rfl, ⟨h0, hb⟩, fun p hp => ⟨p, _, rfl, st_of upd_same, rfl, _, _, rfl, _, _, rfl, rfl, k _ ((e1.trans e2).trans (Ex.new hp))⟩⟩
end
/-! ### tuples of bools as data -/
theorem dp_bools {K : PySem.W.Frag} {H : Hp} : ∀ bs : List Bool, DpAll K H (bs.map V.bl) (bs.map PyData.bool)
  | [] => .nil
  | b :: bs => .cons (.bl b) (dp_bools bs)
theorem vals_flat : ∀ bs : List Bool, (bs.map V.bl).all flatV = true
  | [] => rfl
  | _ :: bs => vals_flat bs
theorem true_in : ∀ bs : List Bool, inV (.bl true) (bs.map V.bl) = decide (0 < cnt bs)
  | [] => rfl
  | b :: bs => by
    have ih := true_in bs
    unfold inV at ih ⊢
    rw [List.map_cons, List.any_cons, ih]
    cases b with
    | true => simp [cnt, eqV]
    | false => simp [cnt, eqV]
theorem eqv_bools : ∀ xs ys : List Bool, PyData.eqvAll (xs.map PyData.bool) (ys.map PyData.bool) = decide (xs = ys)
  | [], [] => by simp [PyData.eqvAll]
  | [], _ :: _ => by simp [PyData.eqvAll]
  | _ :: _, [] => by simp [PyData.eqvAll]
  | x :: xs, y :: ys => by
    simp only [List.map_cons, PyData.eqvAll, eqv_bools xs ys]
    cases x <;> cases y <;> simp [PyData.eqv]
end KF
set_option Elab.async false
set_option linter.all false
set_option maxRecDepth 100000
set_option maxHeartbeats 4000000
namespace KF
open PySem PySem.Spec PyProof.Rows L2 Evl
theorem lay_bools : ∀ bs : List Bool, PyData.canLayAll0 (bs.map PyData.bool) = true
  | [] => by simp [PyData.canLayAll0]
  | b :: bs => by simp [PyData.canLayAll0, PyData.canLay0, lay_bools bs]
theorem depth_bools : ∀ bs : List Bool, PyData.depthAll (bs.map PyData.bool) = 0
  | [] => by simp [PyData.depthAll]
  | b :: bs => by simp [PyData.depthAll, PyData.depth, depth_bools bs]
theorem weight_bools : ∀ bs : List Bool, PyData.weightAll (bs.map PyData.bool) ≤ 2 * bs.length
  | [] => by simp [PyData.weightAll]
  | b :: bs => by
    have := weight_bools bs
    simp only [List.map_cons, PyData.weightAll, PyData.weight, List.length_cons]
    omega
theorem show_bools : ∀ bs : List Bool, PyData.showableAll (bs.map PyData.bool) = true
  | [] => by simp [PyData.showableAll]
  | b :: bs => by simp [PyData.showableAll, PyData.showable, show_bools bs]
theorem nodict_bools : ∀ bs : List Bool, PyData.hasDictAll (bs.map PyData.bool) = false
  | [] => by simp [PyData.hasDictAll]
  | b :: bs => by simp [PyData.hasDictAll, PyData.hasDict, nodict_bools bs]
theorem shaped_tup (bs : List Bool) : SeqAt.shaped (.tuple (bs.map PyData.bool)) = true := by
  unfold SeqAt.shaped
  simp [PyData.canLay0, PyData.depth, lay_bools, depth_bools]
def partD (l p : Nat) (bs : List Bool) : PyData := .list [.int (l : Nat), .int (p : Nat), .tuple (bs.map PyData.bool)]
theorem log_small {n : Nat} (h : n < 1000) : ((n : Nat) : Int).natAbs.log2 < 1920 := by
  have e : ((n : Nat) : Int).natAbs = n := Int.natAbs_natCast n
  rw [e]
  by_cases z : n = 0
  · subst z; decide
  · exact Nat.lt_trans ((Nat.log2_lt z).mpr (Nat.lt_trans h (by decide : 1000 < 2 ^ 10))) (by decide)
theorem part_fits {l p : Nat} {bs : List Bool} (hl : l < 1000) (hp : p < 1000) (hb : bs.length ≤ 100) : (partD l p bs).showable = true ∧ (partD l p bs).hasDict = false ∧ (partD l p bs).depth ≤ 60 ∧ (partD l p bs).shown.length ≤ sizeLine := by
  have s1 := log_small hl
  have s2 := log_small hp
  refine ⟨?_, ?_, ?_, ?_⟩
  · unfold partD
    simp only [PyData.showable, PyData.showableAll, show_bools, Bool.and_true, Bool.and_eq_true, decide_eq_true_eq]
    exact ⟨s1, s2⟩
  · unfold partD
    simp [PyData.hasDict, PyData.hasDictAll, nodict_bools]
  · unfold partD
    simp [PyData.depth, PyData.depthAll, depth_bools]
  · refine PyData.shown_fits_of_layable0 (B := 13) (by decide) (by decide) ?_ ?_
    · unfold partD PyData.layable0
      have w := weight_bools bs
      simp only [PyData.canLay0, PyData.canLayAll0, PyData.depth, PyData.depthAll, PyData.weight, PyData.weightAll, lay_bools, depth_bools, Bool.and_true, Bool.true_and, Bool.and_eq_true, decide_eq_true_eq]
      refine ⟨by decide, ?_⟩
      refine decide_eq_true ?_
      have z : (2 : Nat) ^ 20 = 1048576 := by decide
      rw [z]
      split <;> split <;> omega
    · unfold partD
      have i1 : (PyData.shown (.int (l : Nat))).length ≤ 13 := PyData.shown_int_le (by rw [Int.natAbs_natCast]; exact Nat.lt_trans hl (by decide))
      have i2 : (PyData.shown (.int (p : Nat))).length ≤ 13 := PyData.shown_int_le (by rw [Int.natAbs_natCast]; exact Nat.lt_trans hp (by decide))
      simp only [PyData.intsShort, PyData.intsShortAll, PyData.intsShortAll_bools, Bool.and_true, Bool.true_and, Bool.and_eq_true, decide_eq_true_eq]
      exact ⟨i1, i2⟩
def pairD (b : Bool) (n : Nat) : PyData := .list [.bool b, .int (n : Nat)]
theorem pair_fits : ∀ (b : Bool) (n : Nat), n < 61 → (pairD b n).showable = true ∧ (pairD b n).hasDict = false ∧ (pairD b n).depth ≤ 60 ∧ (pairD b n).shown.length ≤ sizeLine := by
  have h : ∀ b : Bool, ((List.range 61).all fun n => decide ((pairD b n).showable = true ∧ (pairD b n).hasDict = false ∧ (pairD b n).depth ≤ 60 ∧ (pairD b n).shown.length ≤ 1000)) = true := by decide +kernel
  intro b n hn
  obtain ⟨h1, h2, h3, h4⟩ := of_decide_eq_true (all_nat (h b) n hn)
  exact ⟨h1, h2, h3, Nat.le_trans h4 (by decide)⟩
end KF
set_option Elab.async false
set_option linter.all false
set_option maxRecDepth 100000
set_option maxHeartbeats 4000000
namespace KS
open PySem PySem.Spec PyProof.Rows L2
/-! ### the set of some texts: how many they are -/
/-- how many unlike texts stand among the first i -/
def unlike (xs : List Str) : Nat → Nat
  | 0 => 0
  | i + 1 => if (xs.take i).any (· == xs.getD i Str.empty) = true then unlike xs i else unlike xs i + 1
theorem unlike_le (xs : List Str) : ∀ i, unlike xs i ≤ i
  | 0 => Nat.le_refl _
  | i + 1 => by
    have := unlike_le xs i
    unfold unlike
    split <;> omega
theorem take_any (xs : List Str) {i : Nat} (h : i < xs.length) (k : Str) : (xs.take (i + 1)).any (· == k) = ((xs.take i).any (· == k) || decide (k = xs.getD i Str.empty)) := by
  rw [List.take_succ, List.getElem?_eq_getElem h, List.any_append, List.getD_eq_getElem?_getD, List.getElem?_eq_getElem h]
  congr 1
  show ((xs[i] == k) || false) = decide (k = xs[i])
  rw [Bool.or_false]
  by_cases e : k = xs[i]
  · rw [decide_eq_true e, beq_iff_eq.mpr e.symm]
  · rw [decide_eq_false e, beq_eq_false_iff_ne.mpr fun z => e z.symm]
section
variable {prog : Program} {w : World} {A : Around} {R : Result → Shared → Prop} {I : Addr} {fp wr : List Addr} {G : Array GenState → Array GenState → Prop} {n : Nat} {P : Nat → Value → Prop} {St : Nat → Shared → Prop}
/-- the loop that puts them in -/
theorem put_texts (W : WalksS prog w A.in1 I fp wr G n P St) (a : Addr) (away : a ∉ fp) (xs : List Str) (len : xs.length = n) (few : n + 1 < scanBound) (are : ∀ i v, P i v → ∃ t, v = .str (xs.getD i Str.empty) t) :
    ∀ (k i : Nat) (s : Shared), n - i = k → i ≤ n → St i s → s.heap.SetOf (PySem.strKind prog w) a (fun z => (xs.take i).any (· == z)) (unlike xs i) →
      (∀ s', Moved (a :: wr) G s s' → s'.heap.SetOf (PySem.strKind prog w) a (fun z => (xs.take n).any (· == z)) (unlike xs n) → R (.ok (.ret .none)) s') →
      codeAny (model prog w) A (.builtin "set.update.loop" ⟨[.ref a, .ref I], []⟩) R s := by
  have aw : a ∉ wr := fun z => away (W.sub _ z)
  have more : ∀ b ∈ wr, b ∈ a :: wr := fun b z => List.mem_cons_of_mem _ z
  have same : ∀ {s1 s2 : Shared} {S : Str → Bool} {c : Nat}, Moved wr G s1 s2 → s1.heap.SetOf (PySem.strKind prog w) a S c → s2.heap.SetOf (PySem.strKind prog w) a S c := fun m ⟨o, es, ep, t, ho, r⟩ => ⟨o, es, ep, t, m.heap a _ aw ho, r⟩
  intro k
  induction k with
  | zero =>
    intro i s hk hi st set fin
    obtain rfl : i = n := by omega
    refine codeAny_builtin PyProof.Rows.F.entry_set_update_loop ?_
    rw [Around.under_plainId PyProof.Rows.F.plain_set_update_loop _]
    show wpAny _ A.in1 (pyNext (.ref I) >>= fun _ => _) _ _ s
    exact wpAny_bind (W.done s _ _ st fun s1 m => wpAny_pure (fin s1 (m.mono more) (same m set)))
  | succ k ih =>
    intro i s hk hi st set fin
    have lt : i < n := by omega
    refine codeAny_builtin PyProof.Rows.F.entry_set_update_loop ?_
    rw [Around.under_plainId PyProof.Rows.F.plain_set_update_loop _]
    show wpAny _ A.in1 (pyNext (.ref I) >>= fun _ => _) _ _ s
    refine wpAny_bind (W.item i s _ _ lt st fun v s1 pv st1 m => ?_)
    obtain ⟨t, rfl⟩ := are i v pv
    have set1 := same m set
    show wpAny _ A.in1 (holding [Value.str (xs.getD i Str.empty) t] (setAdd a _) >>= fun _ => _) _ _ s1
    unfold setAdd
    have is_ : (PySem.strKind prog w).is (xs.getD i Str.empty) (.str (xs.getD i Str.empty) t) = true := PySem.strKind_is _ _ _ _
    refine wpAny_bind (wpAny_holding (wpAny_holding (wpAny_bind ((PySem.strKind prog w).pyHash is_ ?_))))
    have room : unlike xs i + 1 < scanBound := by have := unlike_le xs i; omega
    refine wpAny_setAddHashed_of (knd := PySem.strKind prog w) (s := { s1 with toks := s1.toks + 1 }) is_ rfl set1 room fun h' but set2 => ?_
    have set3 : h'.SetOf (PySem.strKind prog w) a (fun z => (xs.take (i + 1)).any (· == z)) (unlike xs (i + 1)) := SetOf_congr set2 (fun z => (take_any xs (by omega) z).symm) rfl
    have others : ∀ b, b ≠ a → ∀ o, s1.heap.get? b = some o → h'.get? b = some o := fun b ne o e => (but.2 b ne).trans e
    refine wpAny_pure ⟨plainId_quiet PyProof.Rows.F.plain_set_update_loop _, ih (i + 1) _ (by omega) lt (W.frame _ s1 _ _ st1 (Nat.le_succ _) fun b hb o e => others b (fun z => away (z ▸ hb)) o e) set3 fun s2 m2 set4 => ?_⟩
    exact fin s2 (Moved.trans W.gtrans ((m.mono more).then_heap (Nat.le_succ _) fun b o hb e => others b (fun z => hb (z ▸ List.mem_cons_self)) o e) m2) set4
end
end KS
set_option Elab.async false
set_option linter.all false
set_option maxRecDepth 100000
set_option maxHeartbeats 4000000
namespace KS
open PySem PySem.Spec PyProof.Rows L2
/-- what a set call asks of the thing that it walks -/
structure Walked (prog : Program) (w : World) (l : Addr) (T : String) (items : Array Value) (o : Obj) : Prop where
  cls : o.cls = .type T
  set : isSubtype (.type T) (.type "set") = pure false
  frz : isSubtype (.type T) (.type "frozenset") = pure false
  dct : (Value.type T == Value.type "dict") = false
  go : ∀ (A A1 : Around) (E : Value → Shared → Prop) (s : Shared) (Q : Value → Shared → Prop), A1.handled = none → s.heap.get? l = some o →
    (∀ (oi : Obj) (St : Nat → Shared → Prop), WalksS prog w A1 s.heap.objs.size [s.heap.objs.size, l] [s.heap.objs.size] (fun a b => b = a) items.size (fun i v => items[i]? = some v) St → St 0 { s with heap := s.heap.push oi } → Q (.ref s.heap.objs.size) { s with heap := s.heap.push oi }) →
    wpAny (model prog w) A (pyIter (.ref l)) Q E s
theorem walked_list {prog : Program} {w : World} {l : Addr} {items : Array Value} {o : Obj} (hc : o.cls = .type "list") {n : Nat} (hd : o.data = .seq items n) : Walked prog w l "list" items o where
  cls := hc
  set := PySem.F.sub_list_set
  frz := PySem.F.sub_list_frozenset
  dct := by decide
  go := fun A A1 E s Q hh ho k => by
    have isL : s.heap.IsList l items := ⟨o, ho, hc, n, hd⟩
    have ne : l ≠ s.heap.objs.size := Nat.ne_of_lt (Heap.lt_size ho)
    exact wpAny_pyIter_list isL (k _ _ (Walks.list hh _ l ne items).toS ⟨⟨_, Heap.get?_push_size _ rfl, rfl, rfl⟩, isL.push _⟩)
theorem walked_tuple {prog : Program} {w : World} {l : Addr} {items : Array Value} {o : Obj} (hc : o.cls = .type "tuple") {n : Nat} (hd : o.data = .seq items n) : Walked prog w l "tuple" items o where
  cls := hc
  set := PySem.F.sub_tuple_set
  frz := PySem.F.sub_tuple_frozenset
  dct := by decide
  go := fun A A1 E s Q hh ho k => by
    have isT : s.heap.IsTuple l items := ⟨o, ho, hc, n, hd⟩
    have ne : l ≠ s.heap.objs.size := Nat.ne_of_lt (Heap.lt_size ho)
    exact wpAny_pyIter_tuple isT (k _ _ (Walks.tuple hh _ l ne items).toS ⟨⟨_, Heap.get?_push_size _ rfl, rfl, rfl⟩, isT.push _⟩)
section
variable {prog : Program} {w : World} {A : Around} {E : Value → Shared → Prop} {s : Shared}
set_option maxHeartbeats 8000000 in
/-- set(x), x a list or a tuple of texts -/
theorem call_set_texts {l : Addr} {T : String} {items : Array Value} {ol : Obj} {xs : List Str} {Q : Value → Shared → Prop} (hh : A.handled = none) (hol : s.heap.get? l = some ol) (W : Walked prog w l T items ol) (are : ∀ i v, items[i]? = some v → ∃ t, v = Value.str (xs.getD i Str.empty) t) (len : xs.length = items.size) (few : items.size + 1 < scanBound)
    (h : ∀ (h' : Heap) (tk : Nat), h'.SetOf (PySem.strKind prog w) s.heap.objs.size (fun z => (xs.take items.size).any (· == z)) (unlike xs items.size) → (∀ b o, b < s.heap.objs.size → s.heap.get? b = some o → h'.get? b = some o) → Q (.ref s.heap.objs.size) { s with heap := h', toks := tk }) :
    wpAny (model prog w) A (call (.type "set") [.ref l]) Q E s := by
  obtain ⟨c, tl, mro⟩ := PySem.F.called_set.mro
  have made := PySem.F.called_set.made; have sub := PySem.F.called_set.sub
  refine wpAny_call (codeAny_of_tree ?_); show wpAny _ _ (callAny (.type "set") _) _ _ _
  refine wpAny_pure ⟨Code.quiet_builtin _ (by decide +kernel), codeAny_builtin PySem.F.entry_type_call ?_⟩; rw [Around.under_plain (weight_type_call_type "set" [.ref l] []) rfl]
  have a1 := PySem.F.called_set.notType; have a2 := PySem.F.called_set.canCreate; have a3 := PySem.F.typeCall_set_1 (.ref l)
  repeat (any_goals (first | assumption | wp_step))
  let e0 : Bool → Obj := fun led => { cls := .type "set", dict := none, data := .set #[] 0 (.fresh 0 0 led) }
  refine codeAny_mono (code_set_new_1 (.ref l) (E := E) (Q₁ := fun obj s1 => ∃ led : Bool, obj = .ref s.heap.objs.size ∧ s1 = { s with heap := s.heap.push (e0 led) }) fun led => ⟨led, rfl, rfl⟩) fun r s1 hr => ?_
  cases r with
  | error e => exact hr
  | ok fl => ?_
  cases fl with
  | next => exact hr.elim
  | brk => exact hr.elim
  | cont => exact hr.elim
  | ret obj => ?_
  obtain ⟨led, rfl, rfl⟩ := hr
  have here : (s.heap.push (e0 led)).get? s.heap.objs.size = some (e0 led) := Heap.get?_push_size _ rfl
  have ty : Shared.TypeIs { s with heap := s.heap.push (e0 led) } (.ref s.heap.objs.size) "set" := ⟨_, here, rfl⟩
  have b1 := PySem.F.called_set.init.lookup; have b2 := PySem.F.called_set.init.bind (.ref s.heap.objs.size)
  repeat (any_goals (first | assumption | wp_step))
  refine codeAny_mono (codeAny_call_builtin (R := wants (fun r s2 => r = .none ∧ ∃ h' tk, s2 = { s with heap := h', toks := tk } ∧ h'.SetOf (PySem.strKind prog w) s.heap.objs.size (fun z => (xs.take items.size).any (· == z)) (unlike xs items.size) ∧ (∀ b o, b < s.heap.objs.size → s.heap.get? b = some o → h'.get? b = some o)) E) PySem.F.called_set.init.plain PySem.F.entry_set_init (check_set_init_1 ty ?_)) fun r2 s2 hr2 => ?_
  · have hol1 : (s.heap.push (e0 led)).get? l = some ol := Heap.get?_push_of_some _ hol
    have lS : l < s.heap.objs.size := Heap.lt_size hol
    have quiet : A.in1.in1.in1.handled = none := by simp [hh]
    have size1 : (s.heap.push (e0 led)).objs.size = s.heap.objs.size + 1 := Heap.size_push ..
    have w1 := W.set; have w2 := W.frz; have w3 := W.dct; have go := W.go
    obtain ⟨ocls, odict, odata, oslots⟩ := ol
    obtain rfl : ocls = .type T := W.cls
    unfold Builtin.«set.__init__» noKeywords Builtin.Frozenset.updateFrom
    generalize hPI : pyIter = PI
    wp_walk
    subst hPI
    refine go _ A.in1.in1.in1 _ _ _ quiet hol1 fun oi St W1 st0 => wpAny_bind (wpAny_runValue ?_)
    have far : s.heap.objs.size ∉ [(s.heap.push (e0 led)).objs.size, l] := by
      rw [size1]
      intro m
      rcases List.mem_cons.mp m with z | m
      · exact absurd z (Nat.ne_of_lt (Nat.lt_succ_self _))
      · exact absurd (List.mem_singleton.mp m) (Nat.ne_of_gt lS)
    refine put_texts W1 s.heap.objs.size far xs len few are (items.size - 0) 0 _ rfl (Nat.zero_le _) st0 ?start fun s3 m3 set3 => ?fin
    case start =>
      have at2 : ((s.heap.push (e0 led)).push oi).get? s.heap.objs.size = some (e0 led) := Heap.get?_push_of_some _ here
      exact SetOf_congr ((setObjOf_fresh (knd := PySem.strKind prog w) led).setOf at2 (by unfold scanBound; omega)) (fun _ => rfl) rfl
    case fin =>
      obtain ⟨h3, g3, d3, tk3, os3⟩ := s3
      have eg : g3 = s.gens := m3.gens; have ed : d3 = s.drawn := m3.drawn; have eo : os3 = s.os := m3.os
      subst eg ed eo
      refine wpAny_pure (wpAny_pure ⟨rfl, h3, tk3, rfl, set3, fun b o hb e => ?_⟩)
      refine m3.heap b o (fun m => ?_) (Heap.get?_push_of_some _ (Heap.get?_push_of_some _ e))
      rcases List.mem_cons.mp m with z | m
      · exact absurd z (Nat.ne_of_lt hb)
      · have z := List.mem_singleton.mp m
        rw [size1] at z
        exact absurd z (Nat.ne_of_lt (Nat.lt_succ_of_lt hb))
  · cases r2 with
    | error e => exact hr2
    | ok fl2 => ?_
    cases fl2 with
    | next => exact hr2.elim
    | brk => exact hr2.elim
    | cont => exact hr2.elim
    | ret v2 => ?_
    obtain ⟨rfl, h3, tk3, rfl, set3, kept⟩ := hr2
    repeat (any_goals (first | assumption | wp_step))
    exact h _ _ set3 kept
end
end KS
set_option Elab.async false
set_option linter.all false
set_option maxRecDepth 100000
set_option maxHeartbeats 4000000
namespace KS
open PySem PySem.Spec PyProof.Rows L2 Evl
theorem unlike_two (a b : Str) : unlike [a, b] 2 = if a = b then 1 else 2 := by
  show (if ([a] : List Str).any (· == b) = true then (if ([] : List Str).any (· == a) = true then 0 else 0 + 1) else _ + 1) = _
  by_cases e : a = b
  · subst e
    simp [unlike]
  · simp [unlike, e]
/-- len(set(xs)), xs a list or a tuple of texts -/
def tLenT (K : PySem.W.Frag) (ta : TE) : TE := fun σ H Q => ta σ H fun x H1 => ∃ (l : Addr) (xs : List Str), x = .ref l ∧ (SqL K H1 l (xs.map V.str) ∨ SqT K H1 l (xs.map V.str)) ∧ xs.length ≤ 1000 ∧ Q (.int (unlike xs xs.length : Nat)) H1
theorem texts_at : ∀ {xs : List Str} {us : List Value}, Vals (xs.map V.str) us → ∀ (i : Nat) (v : Value), us[i]? = some v → ∃ t, v = Value.str (xs.getD i Str.empty) t
  | [], _, .nil, _, _, h => by simp at h
  | x :: xs, _, .cons r t, 0, v, h => by
    obtain ⟨k, rfl⟩ := r
    obtain rfl := Option.some.inj h
    exact ⟨k, rfl⟩
  | x :: xs, _, .cons r t, i + 1, v, h => texts_at t i v h
theorem pe_lenT {X : Cx} {K : PySem.W.Frag} {a : Expr} {ta : TE} {p p2 q pos : Pos} (hK : X.K = K) (hc : X.calm = true) (hg : Gl X "len") (hm : X.mg "len" = none) (hg2 : Gl X "set") (hm2 : X.mg "set" = none) (ha : PE X a ta)
    (one : starEach [a] X.env = (false, eval a X.env) :: starEach [] X.env := by rfl) : PE X (.Call (.Name "len" p) [.Call (.Name "set" p2) [a] [] q] [] pos) (tLenT K ta) where
  run := fun pins s σ H Q I h => by
    subst hK
    refine Call_ (ld_blt I hg hm boot_len (callWith_builtin1 (args_cons ?_ rfl) rfl rfl))
    refine Call_ (ld_blt I hg2 hm2 boot_set (callWith_type1 (args_cons (thn (ha.run pins s σ H _ I h) fun v s1 ⟨x, H1, I1, r1, got⟩ => args_nil ?_) one) one rfl))
    obtain ⟨l, xs, rfl, sq, few, got⟩ := got
    obtain rfl : v = Value.ref l := r1
    have quiet : X.A.handled = none := I1.ok.hd hc
    have fin : ∀ (us : List Value), Vals (xs.map V.str) us → ∀ (h' : Heap) (tk : Nat), h'.SetOf (PySem.strKind X.prog X.w) s1.heap.objs.size (fun z => (xs.take us.toArray.size).any (· == z)) (unlike xs us.toArray.size) → (∀ b o, b < s1.heap.objs.size → s1.heap.get? b = some o → h'.get? b = some o) →
        wpAny (model X.prog X.w) X.A (spliced (backTo pos (starEach [] X.env))) (fun vs s2 => wpAny (model X.prog X.w) X.A (call (.builtin "len") (Value.ref s1.heap.objs.size :: vs)) (EP X pins σ Q) X.xe s2) X.xe { s1 with heap := h', toks := tk } := fun us r h' tk set kept => by
      have len : us.toArray.size = xs.length := by rw [List.size_toArray, ← r.length, List.length_map]
      rw [len] at set
      obtain ⟨o, es, ep, t, ho, ex, hd, _, _, _, hf, hn⟩ := set
      have J : Inv X pins σ H1 { s1 with heap := h', toks := tk } := I1.kept fun b o e => kept b o (Heap.lt_size e) e
      have small := unlike_le xs xs.length
      exact args_nil (call_len_set ho ex hd hf (by rw [hn] <;> omega) ⟨.int (unlike xs xs.length : Nat), H1, J.tok _, ⟨_, by rw [hn]⟩, got⟩)
    rcases sq with sq | sq
    · obtain ⟨us, r, ⟨o, n, ho, hcl, _, hd⟩, _⟩ := I1.list sq
      have len : xs.length = us.toArray.size := by rw [List.size_toArray, ← r.length, List.length_map]
      exact call_set_texts quiet ho (walked_list hcl hd) (fun i v hv => texts_at r i v (by simpa using hv)) len (by unfold scanBound; omega) fun h' tk set kept => fin us r h' tk set kept
    · obtain ⟨us, r, ⟨o, ho, hcl, n, hd⟩, _⟩ := I1.tuple sq
      have len : xs.length = us.toArray.size := by rw [List.size_toArray, ← r.length, List.length_map]
      exact call_set_texts quiet ho (walked_tuple hcl hd) (fun i v hv => texts_at r i v (by simpa using hv)) len (by unfold scanBound; omega) fun h' tk set kept => fin us r h' tk set kept
end KS
set_option Elab.async false
set_option linter.all false
set_option maxRecDepth 100000
set_option maxHeartbeats 4000000
namespace KV
open PySem PySem.Spec PyProof.Rows L2 Evl KF
namespace Rt
open PySem PySem.W
variable {prog : Program} {w : World} {K : Frag} {A : Around} {E : Value → Shared → Prop} {s : Shared} {x y C C2 f : Addr} {ox oy : Obj} {od od2 : Option Obj}
theorem rich_right {Q : Value → Shared → Prop} (hu : A.units + 1 < cLine) (X : K.In s.heap) (I : InstAt s.heap x ox C od) (J : InstAt s.heap y oy C2 od2) (ne : C ≠ C2) (hm : mroIn K C2 (.ref C) = some true)
    (hs : findIn K (.ref C2) "__eq__" = some (some (.ref f))) (hf : isFn K (.ref f) = true)
    (h : wpAny (model prog w) A (call (.ref f) [.ref y, .ref x]) (fun v s' => ∃ b, v = .bool b ∧ Q (.bool b) s') E s) : wpAny (model prog w) A (richCompare .Eq (.ref x) (.ref y)) Q E s := by
  have one : wpAny (model prog w) A (tryCompare (.ref y) "__eq__" (.ref x)) (fun r s' => ∃ b, r = some (.bool b) ∧ Q (.bool b) s') E s := by
    unfold tryCompare
    refine wpAny_bind (ifBound_K X J hs hf (wpAny_mono h (fun v s' hv => ?_) fun _ _ e => e))
    obtain ⟨b, rfl, hq⟩ := hv
    first | exact ⟨b, rfl, wpAny_pure ⟨b, rfl, hq⟩⟩ | exact ⟨b, rfl, wpAny_pure (wpAny_pure hq)⟩ | exact wpAny_pure ⟨b, rfl, hq⟩ | exact ⟨b, rfl, ⟨b, rfl, hq⟩⟩
  unfold richCompare
  simp only [oneThing_ref]
  refine wpAny_holding (wpAny_bind (wpAny_cRoomFor (Nat.lt_of_succ_lt hu) ?_))
  rw [show (cmpInfo CmpOp.Eq).2.snd = "__eq__" from rfl]
  refine wpAny_bind (I.type.here (wpAny_bind (J.type.here ?_)))
  rw [show (Value.ref C != Value.ref C2) = true from by simp [ne]]
  simp only [if_true]
  refine wpAny_bind ((looks_mroIn X hm).here ?_)
  simp only [if_true]
  refine wpAny_bind (wpAny_mono one (fun r s' z => ?_) fun _ _ e => e)
  obtain ⟨b, rfl, hq⟩ := z
  first | exact wpAny_pure hq | exact wpAny_pure (wpAny_pure hq) | exact wpAny_bind (wpAny_rule (wpAny_pure hq)) | (refine wpAny_bind ?_; wp_step; exact wpAny_pure hq)
end Rt
open PySem
/-- x == y, y an own instance of a class below x's own: y's own __eq__ goes first -/
def rOwnRF (C C2 : Addr) (sp : Sp) (E : XK) : R2 := fun x y H Q => ∃ (p dx : Addr) (fs : List (Str × V)) (q dy : Addr) (gs : List (Str × V)), x = .ref p ∧ y = .ref q ∧ H p = some (.ins C dx fs) ∧ H q = some (.ins C2 dy gs) ∧ sp [y, x] H (fun v H' => ∃ b, v = .bl b ∧ Q (.bl b) H') E
section
variable {X : Cx} {CX : CXT} {C C2 g : Addr} {n : Nat} {sp : Sp} {E : XK}
theorem op_ownRF (ne : C ≠ C2) (hm : PySem.W.mroIn X.K C2 (.ref C) = some true) (hs : PySem.W.findIn X.K (.ref C2) "__eq__" = some (some (.ref g))) (hf : PySem.W.isFn X.K (.ref g) = true)
    (F : FnR X.prog X.w X.K X.mg X.base CX n g sp) (room : Room n X.A) (hx : Passes CX X E) : OpR X (compareOp .Eq) (rOwnRF C C2 sp E) := by
  intro pins s σ H x y v u Q I rx ry told
  obtain ⟨p, dx, fs, q, dy, gs, rfl, rfl, hp, hq, want⟩ := told
  obtain rfl : v = Value.ref p := rx
  obtain rfl : u = Value.ref q := ry
  obtain ⟨o1, d1, J1, _⟩ := StX.insC_at (X := X) I (.inr ⟨dx, fs, hp⟩)
  obtain ⟨o2, d2, J2, _⟩ := StX.insC_at (X := X) I (.inr ⟨dy, gs, hq⟩)
  have hu : X.A.units + 1 < cLine := by have := room.units; have := room.units0; omega
  show wpAny (model X.prog X.w) X.A (richCompare .Eq (.ref p) (.ref q)) _ _ _
  refine Rt.rich_right hu I.kIn J1 J2 ne hm hs hf (wpAny_mono (wpAny_call (SlX.run_at (us := [.ref q, .ref p]) (ws := [.ref q, .ref p]) F room I.env0 hx I (.cons rfl (.cons rfl .nil)) want)) (fun r s' got => ?_) fun _ _ same => same)
  obtain ⟨z, H', I', rz, b, rfl, want2⟩ := got
  obtain rfl : r = Value.bool b := rz
  exact ⟨b, rfl, .bl b, H', I', rfl, want2⟩
end
end KV
set_option linter.all false
namespace KV
open PySem PyProof.Rows
theorem ltC_nil_nil : Spec.ltCps [] [] = false := rfl
theorem ltC_cons_nil (a : Nat) (x : List Nat) : Spec.ltCps (a :: x) [] = false := rfl
theorem ltC_nil_cons (a : Nat) (x : List Nat) : Spec.ltCps [] (a :: x) = true := rfl
theorem ltC_cons (a b : Nat) (x y : List Nat) : Spec.ltCps (a :: x) (b :: y) = (if a = b then Spec.ltCps x y else decide (a < b)) := by
  simp only [Spec.ltCps]
  first | rfl | (split <;> simp_all) | skip
theorem le_trans_ltC : ∀ (x y z : List Nat), Spec.ltCps y x = false → Spec.ltCps z y = false → Spec.ltCps z x = false
  | [], _, [], _, _ => rfl
  | [], _, _ :: _, _, _ => rfl
  | _ :: _, [], _, h, _ => by simp [ltC_nil_cons] at h
  | _ :: _, _ :: _, [], _, h => by simp [ltC_nil_cons] at h
  | a :: x, b :: y, c :: z, h1, h2 => by
    rw [ltC_cons] at *
    by_cases e1 : b = a
    · subst e1
      rw [if_pos rfl] at h1
      by_cases e2 : c = b
      · subst e2
        rw [if_pos rfl] at h2 ⊢
        exact le_trans_ltC x y z h1 h2
      · rw [if_neg e2] at h2 ⊢
        exact h2
    · rw [if_neg e1] at h1
      have h1' := of_decide_eq_false h1
      by_cases e2 : c = b
      · subst e2
        rw [if_neg e1]
        exact h1
      · rw [if_neg e2] at h2
        have h2' := of_decide_eq_false h2
        rw [if_neg (by omega)]
        exact decide_eq_false (by omega)
theorem antisymm_ltC : ∀ (x y : List Nat), Spec.ltCps y x = false → Spec.ltCps x y = false → x = y
  | [], [], _, _ => rfl
  | [], _ :: _, _, h => by simp [ltC_nil_cons] at h
  | _ :: _, [], h, _ => by simp [ltC_nil_cons] at h
  | a :: x, b :: y, h1, h2 => by
    rw [ltC_cons] at *
    by_cases e : a = b
    · subst e
      rw [if_pos rfl] at h1 h2
      rw [antisymm_ltC x y h1 h2]
    · rw [if_neg (fun h => e h.symm)] at h1
      rw [if_neg e] at h2
      have := of_decide_eq_false h1
      have := of_decide_eq_false h2
      omega
def leS (a b : Str) : Prop := Spec.ltCps b.cps.toList a.cps.toList = false
theorem leS_trans {a b c : Str} (h : leS a b) (k : leS b c) : leS a c := le_trans_ltC _ _ _ h k
theorem leS_antisymm {a b : Str} (h : leS a b) (k : leS b a) : a = b := by
  have := antisymm_ltC _ _ h k
  cases a; cases b
  simp only [Str.mk.injEq]
  exact Array.toList_inj.mp this
theorem risingS_nil (x : Str) : risingS x [] = true := rfl
theorem pairwise_of_risingS : ∀ (l : List Str) (x : Str), risingS x l = true → (x :: l).Pairwise leS
  | [], x, _ => List.pairwise_singleton _ _
  | y :: r, x, h => by
    have h' : (!Spec.ltCps y.cps.toList x.cps.toList && risingS y r) = true := h
    rw [Bool.and_eq_true] at h'
    have ih := pairwise_of_risingS r y h'.2
    have xy : leS x y := by
      have := h'.1
      unfold leS
      cases hh : Spec.ltCps y.cps.toList x.cps.toList <;> simp_all
    refine List.pairwise_cons.mpr ⟨fun z hz => ?_, ih⟩
    rcases List.mem_cons.mp hz with rfl | hz
    · exact xy
    · exact leS_trans xy ((List.pairwise_cons.mp ih).1 z hz)
theorem pairwise_of_sortedS {l : List Str} (h : sortedS l = true) : l.Pairwise leS := by
  cases l with
  | nil => exact .nil
  | cons x r => exact pairwise_of_risingS r x h
/-- two sorted lists with the same items are one -/
theorem sorted_unique {a b : List Str} (ha : sortedS a = true) (hb : sortedS b = true) (p : a.Perm b) : a = b :=
  List.Perm.eq_of_pairwise (fun _ _ _ _ => leS_antisymm) (pairwise_of_sortedS ha) (pairwise_of_sortedS hb) p
/-- sorted(xs) = sorted(ys) just where ys is xs turned about -/
theorem sorted_eq_iff {a b xs ys : List Str} (ha : sortedS a = true) (pa : a.Perm xs) (hb : sortedS b = true) (pb : b.Perm ys) : (a = b) ↔ xs.Perm ys :=
  ⟨fun e => pa.symm.trans (e ▸ pb), fun p => sorted_unique ha hb (pa.trans (p.trans pb.symm))⟩
end KV
set_option Elab.async false
set_option linter.all false
namespace KV
open PySem PySem.Spec PyProof.Rows L2 Evl KF
/-! lists and tuples of texts, compared -/
theorem lay_strs : ∀ ss : List Str, (∀ s ∈ ss, PyData.strOk s = true) → PyData.canLayAll0 (ss.map PyData.str) = true
  | [], _ => rfl
  | s :: ss, h => by
    have ih := lay_strs ss fun x hx => h x (List.mem_cons_of_mem _ hx)
    have := h s (List.mem_cons_self ..)
    simp [PyData.canLayAll0, PyData.canLay0, ih, this]
theorem depth_strs : ∀ ss : List Str, PyData.depthAll (ss.map PyData.str) = 0
  | [] => by simp [PyData.depthAll]
  | s :: ss => by simp [PyData.depthAll, PyData.depth, depth_strs ss]
theorem shaped_strs {ss : List Str} (h : ∀ s ∈ ss, PyData.strOk s = true) : SeqAt.shaped (.tuple (ss.map PyData.str)) = true ∧ SeqAt.shaped (.list (ss.map PyData.str)) = true := by
  have l := lay_strs ss h
  constructor
  · unfold SeqAt.shaped
    simp [PyData.canLay0, PyData.depth, l, depth_strs]
  · unfold SeqAt.shaped
    simp [PyData.canLay0, PyData.depth, l, depth_strs]
theorem eqv_strs : ∀ a b : List Str, PyData.eqvAll (a.map PyData.str) (b.map PyData.str) = decide (a = b)
  | [], [] => by simp [PyData.eqvAll, PyData.eqv]
  | [], _ :: _ => by simp [PyData.eqvAll, PyData.eqv]
  | _ :: _, [] => by simp [PyData.eqvAll, PyData.eqv]
  | x :: a, y :: b => by
    have := eqv_strs a b
    simp only [List.map_cons, PyData.eqvAll, PyData.eqv, this]
    by_cases h : x = y <;> by_cases h2 : a = b <;> simp [h, h2]
theorem dp_strs {K : PySem.W.Frag} {H : Hp} : ∀ ns : List Str, DpAll K H (ns.map V.str) (ns.map PyData.str)
  | [] => .nil
  | n :: ns => .cons (.str n) (dp_strs ns)
theorem rv_eqLS {K : PySem.W.Frag} {H : Hp} {p q : Addr} {xs ys : List Str} (h1 : H p = some (.lst (xs.map V.str))) (h2 : H q = some (.lst (ys.map V.str))) (o1 : ∀ s ∈ xs, PyData.strOk s = true) (o2 : ∀ s ∈ ys, PyData.strOk s = true) : RV (rEqD K) (.ref p) (.ref q) H (.bl (decide (xs = ys))) := fun H1 e Q k =>
  ⟨.list (xs.map PyData.str), .list (ys.map PyData.str), .lst (sq_of (e _ _ h1)) (dp_strs xs), .lst (sq_of (e _ _ h2)) (dp_strs ys), (shaped_strs o1).2, (shaped_strs o2).2, by
    rw [show PyData.eqv (.list (xs.map PyData.str)) (.list (ys.map PyData.str)) = PyData.eqvAll (xs.map PyData.str) (ys.map PyData.str) by simp [PyData.eqv], eqv_strs]
    exact k H1 (Ex.refl H1)⟩
end KV
set_option Elab.async false
set_option linter.all false
set_option maxHeartbeats 4000000
namespace KV
open PySem PySem.Spec PyProof.Rows L2
/-! sorted(a tuple of texts) -/
theorem inv_in1 {X : Cx} {pins : List (Addr × Obj)} {σ : L2.St} {H : Hp} {s : Shared} (I : L2.Inv X pins σ H s) : L2.Inv { X with A := X.A.in1 } pins σ H s :=
  { ok := { mod := I.ok.mod, kind := I.ok.kind, glob := I.ok.glob, blt := I.ok.blt, above := I.ok.above, inj := I.ok.inj, has := I.ok.has, cab := I.ok.cab
            hd := fun h => by have := I.ok.hd h; simpa using this
            frames := by have := I.ok.frames; simpa using this
            stk := I.ok.stk, exf := I.ok.exf, bs := I.ok.bs, bsz := I.ok.bsz, noex := I.ok.noex, exfs := I.ok.exfs, funs := I.ok.funs, frf := I.ok.frf }
    os := I.os, bare := I.bare, base := I.base, loc := I.loc, cell := I.cell, free := I.free, freeC := I.freeC, pin := I.pin, hok := I.hok, len := I.len }
theorem inv_out1 {X : Cx} {pins : List (Addr × Obj)} {σ : L2.St} {H : Hp} {s s0 : Shared} {H0 : Hp} (I0 : L2.Inv X pins σ H0 s0) (I : L2.Inv { X with A := X.A.in1 } pins σ H s) : L2.Inv X pins σ H s :=
  { ok := I0.ok, os := I.os, bare := I.bare, base := I.base, loc := I.loc, cell := I.cell, free := I.free, freeC := I.freeC, pin := I.pin, hok := I.hok, len := I.len }
def rSortedST (K : PySem.W.Frag) : List V → Hp → VK → Prop := fun vs H Q => ∃ (a : Addr) (xs : List Str), vs = [.ref a] ∧ SqT K H a (xs.map V.str) ∧ xs.length < 64 ∧ ∀ (ys : List Str) (p : Addr), ys.Perm xs → sortedS ys = true → H p = none → Q (.ref p) (upd H p (.lst (ys.map V.str)))
/-- collect of a tuple: what was stays, the heap grows -/
theorem collect_tup {P : Program} {w : World} {A : Around} {E : Value → Shared → Prop} {s : Shared} {Q : List Value → Shared → Prop} {a : Addr} {o : Obj} {items : Array Value} {n : Nat} (ho : s.heap.get? a = some o) (hc : o.cls = .type "tuple") (hd : o.data = .seq items n) (hz : items.size ≤ sizeLine)
    (hQ : ∀ h' : Heap, (∀ (b : Addr) (u : Obj), s.heap.get? b = some u → h'.get? b = some u) → s.heap.objs.size ≤ h'.objs.size → Q items.toList { heap := h', gens := s.gens, drawn := s.drawn, toks := s.toks, os := s.os }) : wpAny (model P w) A (collect (.ref a)) Q E s := by
  let l0 : Obj := { cls := .type "list", data := .seq ([] : List Value).toArray }
  let h1 : Heap := s.heap.push l0
  let h2 : Heap := h1.update s.heap.objs.size (Obj.mapSeq (· ++ items))
  have g1 : h1.get? s.heap.objs.size = some { cls := .type "list", data := .seq #[] 0 } := Heap.get?_push_size _ rfl
  have g2 := Heap.get?_update_self (Obj.mapSeq (· ++ items)) g1 rfl
  have kp : ∀ (b : Addr) (u : Obj), s.heap.get? b = some u → h2.get? b = some u := fun b u hb =>
    (Heap.get?_update_other _ _ (Nat.ne_of_gt (Heap.lt_size hb))).trans (Heap.get?_push_of_some _ hb)
  have ge : s.heap.objs.size ≤ h2.objs.size := by
    have e1 : h1.objs.size = s.heap.objs.size + 1 := Heap.size_push ..
    have e2 : h2.objs.size = h1.objs.size := by
      first | exact Heap.size_update .. | simp [h2, Heap.update]
    omega
  have last : wpAny (model P w) A (load s.heap.objs.size >>= fun o => match o.data with
          | Data.seq xs _ => pure xs.toList
          | _ => unsupported "internal:collect") Q E { s with heap := h2 } := wpAny_bind (wpAny_load g2 (wpAny_pure (by
    have e : ((#[] : Array Value) ++ items).toList = items.toList := by simp
    show Q ((#[] : Array Value) ++ items).toList _
    rw [e]
    exact hQ h2 kp ge)))
  unfold collect
  refine wpAny_bind (wpAny_runValue (codeAny_builtin PySem.F.entry_proto_collect (by
    rw [Around.under_plainId PySem.F.plain_proto_collect _]
    show wpAny _ A.in1 (newList [] >>= fun l => again (.builtin "list.__iadd__" ⟨[l, .ref a], []⟩)) _ _ s
    refine wpAny_bind (wpAny_newObj_type (wpAny_pure ⟨plainId_quiet PySem.F.plain_list_iadd _, codeAny_builtin PySem.F.entry_list_iadd ?_⟩))
    rw [Around.under_plainId PySem.F.plain_list_iadd _]
    refine wpAny_mono (wpAny_extend_seq (hsz := hz) (A := A) (R := fun r s' => r = .ok (.ret (.ref s.heap.objs.size)) ∧ s' = { s with heap := h2 }) (s := { s with heap := h1 }) _ a _ 0 (.inr rfl) g1 (Heap.get?_push_of_some _ ho) hc hd ⟨rfl, rfl⟩) (fun fin s' h => ?_) fun e s' h => absurd h.1 (by simp)
    cases fin with
    | done f =>
      obtain ⟨z, rfl⟩ := h
      cases z
      exact last
    | again c' => exact ⟨h.1, codeAny_mono h.2 fun r s'' hr => by obtain ⟨rfl, rfl⟩ := hr; exact last⟩)))
theorem cr_sortedST {X : Cx} : CallR X (.builtin "sorted") (rSortedST X.K) := by
  intro pins s σ H vs us Q I r h
  obtain ⟨a, xs, rfl, hs, hl, q⟩ := h
  obtain ⟨its, rv, ht, _⟩ := I.tuple hs
  rw [Vals.ref1 r]
  have ht : s.heap.IsTuple a its.toArray := ht
  obtain ⟨o, ho, hcl, n, hd⟩ := id ht
  have hlen : its.length = xs.length := by rw [← rv.length, List.length_map]
  have small : its.length ≤ sizeLine := Nat.le_trans (by omega : its.length ≤ 64) (by decide)
  refine wpAny_call (codeAny_call_builtin plain_sorted entry_sorted ?_)
  unfold checkBuiltinCall
  rw [kind_sorted]
  have ok := args_sorted1 (.ref a)
  dsimp only
  refine wpAny_of_eq ok ?_
  unfold Builtin.sorted
  refine wpAny_bind (wpAny_of_eq (show checkCount "sorted" 1 1 1 = pure () from rfl) ?_)
  refine wpAny_bind (collect_tup ho hcl hd (by simpa using small) fun h' kp ge => ?_)
  refine wpAny_bind (wpAny_newList ?_ (by simpa using small))
  have kp2 : ∀ (b : Addr) (u : Obj), s.heap.get? b = some u → (h'.push ({ cls := .type "list", data := .seq its.toArray } : Obj)).get? b = some u := fun b u hb => Heap.get?_push_of_some _ (kp b u hb)
  have J : L2.Inv X pins σ (upd H h'.objs.size (.lst (xs.map V.str))) { heap := h'.push ({ cls := .type "list", data := .seq its.toArray } : Obj), gens := s.gens, drawn := s.drawn, toks := s.toks, os := s.os } :=
    I.laid (t' := s.toks) kp2 ge ⟨by rw [List.length_map]; exact Nat.le_trans (by omega : xs.length ≤ 64) (by decide), its, 0, rv, Heap.get?_push_size _ rfl⟩
  have new : H h'.objs.size = none := I.hok.fresh ge
  refine wpAny_bind (wpAny_holding ?_)
  refine wpAny_mono (mt_sortS (X := { X with A := X.A.in1 }) pins _ σ _ (.ref h'.objs.size) [] (.ref h'.objs.size) [] (fun v H2 => ∃ ys : List Str, v = .non ∧ H2 = upd (upd H h'.objs.size (.lst (xs.map V.str))) h'.objs.size (.lst (ys.map V.str)) ∧ ys.Perm xs ∧ sortedS ys = true) (inv_in1 J) rfl .nil ⟨_, xs, rfl, rfl, upd_same, hl, fun ys p1 p2 => ⟨ys, rfl, rfl, p1, p2⟩⟩) (fun v s' got => ?_) fun _ _ z => z
  obtain ⟨v', H2, I2, rv2, ys, rfl, rfl, p1, p2⟩ := got
  have e : upd (upd H h'.objs.size (.lst (xs.map V.str))) h'.objs.size (.lst (ys.map V.str)) = upd H h'.objs.size (.lst (ys.map V.str)) := by
    funext b
    by_cases hb : b = h'.objs.size
    · subst hb
      rw [upd_same, upd_same]
    · rw [upd_ne hb, upd_ne hb, upd_ne hb]
  have I3 := inv_out1 I I2
  rw [e] at I3
  unfold ret
  refine wpAny_pure ?_
  exact ⟨.ref h'.objs.size, _, I3, rfl, q ys _ p1 p2 new⟩
end KV
set_option Elab.async false
set_option linter.all false
set_option maxRecDepth 100000
set_option maxHeartbeats 4000000
namespace KV
open PySem PySem.Spec PyProof.Rows L2 Evl KF
/-! a list of anything against [] -/
def rNilL (K : PySem.W.Frag) (neg : Bool) : R2 := fun x y H Q => ∃ (a b : Addr) (xs : List V), x = .ref a ∧ y = .ref b ∧ SqL K H a xs ∧ SqL K H b [] ∧ Q (.bl (if neg then !decide (xs = []) else decide (xs = []))) H
theorem isL {h : Heap} {a : Addr} {its : Array Value} (p : PlainL h a its) : h.IsList a its := let ⟨o, n, e, c, _, d⟩ := p; ⟨o, e, c, n, d⟩
section
variable {X : Cx} {K : PySem.W.Frag}
theorem op_eqNilL (hK : X.K = K) (hu : X.A.units + 64 < cLine) : OpR X (compareOp .Eq) (rNilL K false) := by
  subst hK
  intro pins s σ H x y v u Q I rx ry h
  obtain ⟨a, b, xs, rfl, rfl, ha, hb, q⟩ := h
  by_cases e : xs = []
  · subst e
    exact op_eqD hu pins s σ H _ _ v u Q I rx ry ⟨.list [], .list [], .lst ha .nil, .lst hb .nil, by decide +kernel, by decide +kernel, by rw [show PyData.eqv (.list []) (.list []) = true by decide +kernel]; exact q⟩
  · obtain ⟨its, r1, h1, _⟩ := I.list ha
    obtain ⟨its2, r2, h2, _⟩ := I.list hb
    replace h1 := isL h1
    replace h2 := isL h2
    obtain rfl : v = Value.ref a := rx
    obtain rfl : u = Value.ref b := ry
    have l2 : its2 = [] := by cases r2; rfl
    subst l2
    have ne : (its.toArray.size != ([] : List Value).toArray.size) = true := by
      cases r1 with
      | nil => exact absurd rfl e
      | cons _ _ => simp
    have z : (if false = true then !decide (xs = []) else decide (xs = [])) = false := by simp [e]
    rw [z] at q
    exact SeqAt.RcAt.lists_lengths h1 h2 ne (Nat.lt_of_le_of_lt (Nat.le_add_right _ _) hu) X.prog X.w _ _ ⟨.bl false, H, I, rfl, q⟩
theorem op_neNilL (hK : X.K = K) (hu : X.A.units + 64 < cLine) : OpR X (compareOp .NotEq) (rNilL K true) := by
  subst hK
  intro pins s σ H x y v u Q I rx ry h
  obtain ⟨a, b, xs, rfl, rfl, ha, hb, q⟩ := h
  by_cases e : xs = []
  · subst e
    exact op_neD hu pins s σ H _ _ v u Q I rx ry ⟨.list [], .list [], .lst ha .nil, .lst hb .nil, by decide +kernel, by decide +kernel, by rw [show PyData.eqv (.list []) (.list []) = true by decide +kernel]; exact q⟩
  · obtain ⟨its, r1, h1, _⟩ := I.list ha
    obtain ⟨its2, r2, h2, _⟩ := I.list hb
    replace h1 := isL h1
    replace h2 := isL h2
    obtain rfl : v = Value.ref a := rx
    obtain rfl : u = Value.ref b := ry
    have l2 : its2 = [] := by cases r2; rfl
    subst l2
    have ne : (its.toArray.size != ([] : List Value).toArray.size) = true := by
      cases r1 with
      | nil => exact absurd rfl e
      | cons _ _ => simp
    have z : (if true = true then !decide (xs = []) else decide (xs = [])) = true := by simp [e]
    rw [z] at q
    exact SeqAt.RcNeAt.lists_lengths h1 h2 ne (Nat.lt_of_le_of_lt (Nat.le_add_right _ _) hu) X.prog X.w _ _ ⟨.bl true, H, I, rfl, q⟩
theorem rv_nilL {K : PySem.W.Frag} {H : Hp} {p q : Addr} {xs : List V} {neg : Bool} (h1 : H p = some (.lst xs)) (h2 : H q = some (.lst [])) : RV (rNilL K neg) (.ref p) (.ref q) H (.bl (if neg then !decide (xs = []) else decide (xs = []))) := fun H1 e Q k =>
  ⟨p, q, xs, rfl, rfl, sq_of (e _ _ h1), sq_of (e _ _ h2), k H1 (Ex.refl H1)⟩
theorem ev_eqNilL {σ : L2.St} {H : Hp} {te tl : TE} {p : Addr} {xs : List V} {neg : Bool} (h : Ev te σ H (.ref p)) (hp : H p = some (.lst xs)) (hl : EvL tl σ H []) : Ev (tOp (rNilL K neg) te tl) σ H (.bl (if neg then !decide (xs = []) else decide (xs = []))) := ev_opL h hl fun q H1 hq e => rv_nilL (e _ _ hp) hq
theorem ev_eqNilN {σ : L2.St} {H : Hp} {te tl : TE} {xs : List V} {neg : Bool} (h : EvL te σ H xs) (hl : EvL tl σ H []) : Ev (tOp (rNilL K neg) te tl) σ H (.bl (if neg then !decide (xs = []) else decide (xs = []))) := ev_opLL h hl fun p q H1 hp hq e => rv_nilL hp hq
end
theorem notFirst_self {K : PySem.W.Frag} {C : Addr} : PySem.W.notFirst K C (.ref C) = true := by
  unfold PySem.W.notFirst
  simp
end KV
set_option Elab.async false
set_option linter.all false
set_option maxRecDepth 100000
set_option maxHeartbeats 4000000
namespace KW
open PySem PySem.Spec PyProof.Rows L2 Evl KF
namespace Rt
open PySem PySem.SeqAt MeetsSeq MeetsSeq2 MeetsSeq3 SeqRoads2
def DictObj (s : Shared) (a : Addr) : Prop := ∃ (dd : Option Addr) (es : Array DictEntry) (n : Nat) (sl : Array (Option Value)), s.heap.get? a = some { cls := .type "dict", dict := dd, data := .dict es n, slots := sl }
theorem deq_no (l : Addr) (es : Array DictEntry) (n : Nat) (dd : Option Addr) (sl : Array (Option Value)) (b : Str) (u : Tok) :
    Meets (Builtin.«dict.__eq__» ⟨[.ref l, .str b u], []⟩) (fun _ R s => (s.heap.get? l = some { cls := .type "dict", dict := dd, data := .dict es n, slots := sl }) ∧ R (.ok (.ret .notImplemented)) s) :=
  .of_wp fun prog w A R s ⟨hl, h⟩ => by
    obtain ⟨hp, g, d, tk, os⟩ := s
    have no := F.sub_str_dict
    have tI : Shared.TypeIs ⟨hp, g, d, tk, os⟩ (.ref l) "dict" := ⟨_, hl, rfl⟩
    show wpAny _ _ (Builtin.Dict.dictSlotArgs "__eq__" ⟨[.ref l, .str b u], []⟩ >>= _) _ _ _
    refine wpAny_bind ?_
    unfold Builtin.Dict.dictSlotArgs
    refine wpAny_bind (wpAny_notOrdered_dict tI ?_)
    show wpAny _ _ (pure (Value.ref l, Value.str b u)) _ _ _
    refine wpAny_pure ?_
    refine wpAny_bind (wpAny_isInstance (T := "str") (typeIs_str _ b u) no ?_)
    simp only [Bool.not_false, if_true]
    first | exact wpAny_pure ⟨_, rfl, h⟩ | (wp_walk; exact ⟨_, rfl, h⟩) | exact wpAny_pure h
theorem dne_no (l : Addr) (es : Array DictEntry) (n : Nat) (dd : Option Addr) (sl : Array (Option Value)) (b : Str) (u : Tok) :
    Meets (Builtin.«dict.__ne__» ⟨[.ref l, .str b u], []⟩) (fun _ R s => (s.heap.get? l = some { cls := .type "dict", dict := dd, data := .dict es n, slots := sl }) ∧ R (.ok (.ret .notImplemented)) s) :=
  .of_wp fun prog w A R s ⟨hl, h⟩ => by
    obtain ⟨hp, g, d, tk, os⟩ := s
    have no := F.sub_str_dict
    have tI : Shared.TypeIs ⟨hp, g, d, tk, os⟩ (.ref l) "dict" := ⟨_, hl, rfl⟩
    show wpAny _ _ (Builtin.Dict.dictSlotArgs "__ne__" ⟨[.ref l, .str b u], []⟩ >>= _) _ _ _
    refine wpAny_bind ?_
    unfold Builtin.Dict.dictSlotArgs
    refine wpAny_bind (wpAny_notOrdered_dict tI ?_)
    show wpAny _ _ (pure (Value.ref l, Value.str b u)) _ _ _
    refine wpAny_pure ?_
    refine wpAny_bind (wpAny_isInstance (T := "str") (typeIs_str _ b u) no ?_)
    simp only [Bool.not_false, if_true]
    first | exact wpAny_pure ⟨_, rfl, h⟩ | (wp_walk; exact ⟨_, rfl, h⟩) | exact wpAny_pure h
theorem seq_no (b : Str) (u : Tok) (l : Addr) (es : Array DictEntry) (n : Nat) (dd : Option Addr) (sl : Array (Option Value)) :
    Meets (Builtin.«str.__eq__» ⟨[.str b u, .ref l], []⟩) (fun _ R s => (s.heap.get? l = some { cls := .type "dict", dict := dd, data := .dict es n, slots := sl }) ∧ R (.ok (.ret .notImplemented)) s) :=
  .of_wp fun prog w A R s ⟨hl, h⟩ => by
    obtain ⟨hp, g, d, tk, os⟩ := s
    wp_walk using wpAny_loadPart' hl, wpAny_load hl
    exact ⟨_, rfl, h⟩
theorem sne_no (b : Str) (u : Tok) (l : Addr) (es : Array DictEntry) (n : Nat) (dd : Option Addr) (sl : Array (Option Value)) :
    Meets (Builtin.«str.__ne__» ⟨[.str b u, .ref l], []⟩) (fun _ R s => (s.heap.get? l = some { cls := .type "dict", dict := dd, data := .dict es n, slots := sl }) ∧ R (.ok (.ret .notImplemented)) s) :=
  .of_wp fun prog w A R s ⟨hl, h⟩ => by
    obtain ⟨hp, g, d, tk, os⟩ := s
    wp_walk using wpAny_loadPart' hl, wpAny_load hl
    exact ⟨_, rfl, h⟩
variable {A : Around} {s : Shared}
theorem dict_str {l : Addr} (b : Str) (u : Tok) (hl : DictObj s l) (hu : A.units < cLine) : RcAt A s (.ref l) (.str b u) false := fun prog w E Q h => by
  obtain ⟨dd, es, n, sl, ho⟩ := hl
  have tI : s.TypeIs (.ref l) "dict" := ⟨_, ho, rfl⟩
  exact rc_eq_decline_or (k := false) tI (typeIs_str s b u) (by decide) F.sub_str_dict F.slot_dict_eq F.slot_str_eq_refl
    (fun _ hq => call_meets F.slot_dict_eq tI F.entry_dict_eq (F.args_dict_eq_2 _ _) (deq_no l es n dd sl b u) ⟨ho, hq⟩) (fun _ hq => call_meets F.slot_str_eq_refl (typeIs_str s b u) F.entry_str_eq (F.args_str_eq_2 _ _) (seq_no b u l es n dd sl) ⟨ho, hq⟩)
    (fun _ hq => wpAny_of_eq (rfl : isSame (.ref l) (.str b u) = pure false) hq) (.inr hu) h
theorem str_dict {l : Addr} (b : Str) (u : Tok) (hl : DictObj s l) (hu : A.units < cLine) : RcAt A s (.str b u) (.ref l) false := fun prog w E Q h => by
  obtain ⟨dd, es, n, sl, ho⟩ := hl
  have tI : s.TypeIs (.ref l) "dict" := ⟨_, ho, rfl⟩
  exact rc_eq_decline_or (k := false) (typeIs_str s b u) tI (by decide) F.sub_dict_str F.slot_str_eq F.slot_dict_eq_refl
    (fun _ hq => call_meets F.slot_str_eq (typeIs_str s b u) F.entry_str_eq (F.args_str_eq_2 _ _) (seq_no b u l es n dd sl) ⟨ho, hq⟩) (fun _ hq => call_meets F.slot_dict_eq_refl tI F.entry_dict_eq (F.args_dict_eq_2 _ _) (deq_no l es n dd sl b u) ⟨ho, hq⟩)
    (fun _ hq => wpAny_of_eq (rfl : isSame (.str b u) (.ref l) = pure false) hq) (.inr hu) h
theorem dict_strN {l : Addr} (b : Str) (u : Tok) (hl : DictObj s l) (hu : A.units < cLine) : RcNeAt A s (.ref l) (.str b u) true := fun prog w E Q h => by
  obtain ⟨dd, es, n, sl, ho⟩ := hl
  have tI : s.TypeIs (.ref l) "dict" := ⟨_, ho, rfl⟩
  exact rc_ne_decline_or (k := false) tI (typeIs_str s b u) (by decide) F.sub_str_dict F.slot_dict_ne F.slot_str_ne_refl
    (fun _ hq => call_meets F.slot_dict_ne tI F.entry_dict_ne (F.args_dict_ne_2 _ _) (dne_no l es n dd sl b u) ⟨ho, hq⟩) (fun _ hq => call_meets F.slot_str_ne_refl (typeIs_str s b u) F.entry_str_ne (F.args_str_ne_2 _ _) (sne_no b u l es n dd sl) ⟨ho, hq⟩)
    (fun _ hq => wpAny_of_eq (rfl : isSame (.ref l) (.str b u) = pure false) hq) (.inr hu) h
theorem eqAt_of {a : Str} {t : Tok} {l : Addr} (h : RcAt A s (.str a t) (.ref l) false) : EqAt A s (.str a t) (.ref l) false := fun prog w E Q hq => by
  unfold eqBool
  refine wpAny_holding (wpAny_ite_split (fun hab => absurd (eq_of_beq hab) nofun) fun _ => ?_)
  exact wpAny_bind (h prog w E _ (wpAny_truthy_bool hq))
end Rt
open PySem
/-- a list, a tuple or a dict -/
def BoxV (K : PySem.W.Frag) (H : Hp) (a : Addr) : Prop := (∃ xs, SqL K H a xs) ∨ (∃ xs, SqT K H a xs) ∨ ∃ kvs, H a = some (.dK kvs)
theorem BoxV.mono {K : PySem.W.Frag} {H H' : Hp} {a : Addr} (h : BoxV K H a) (e : Ex H H') : BoxV K H' a := by
  rcases h with ⟨xs, h⟩ | ⟨xs, h⟩ | ⟨kvs, h⟩
  · exact .inl ⟨xs, ex_l e h⟩
  · exact .inr (.inl ⟨xs, ex_t e h⟩)
  · exact .inr (.inr ⟨kvs, e _ _ h⟩)
/-- any value that may be compared with a text -/
def AnyV (K : PySem.W.Frag) (H : Hp) (x : V) : Prop := flatV x = true ∨ ∃ a, x = .ref a ∧ BoxV K H a
theorem AnyV.mono {K : PySem.W.Frag} {H H' : Hp} {x : V} (h : AnyV K H x) (e : Ex H H') : AnyV K H' x := h.imp id fun ⟨a, ex, b⟩ => ⟨a, ex, b.mono e⟩
def rEqS (K : PySem.W.Frag) (neg : Bool) : R2 := fun x y H Q => ∃ z : Str, y = .str z ∧ AnyV K H x ∧ Q (.bl (if neg then !decide (x = y) else decide (x = y))) H
def rInS (K : PySem.W.Frag) (neg : Bool) : R2 := fun x y H Q => ∃ (p : Addr) (zs : List Str), y = .ref p ∧ SqT K H p (zs.map V.str) ∧ AnyV K H x ∧ Q (.bl (if neg then !decide (∃ z ∈ zs, x = .str z) else decide (∃ z ∈ zs, x = .str z))) H
section
variable {X : Cx} {K : PySem.W.Frag} {pins : List (Addr × Obj)} {σ : L2.St} {H : Hp} {s : Shared}
theorem box_dict (I : L2.Inv X pins σ H s) {a : Addr} {kvs : List (Key × V)} (h : H a = some (.dK kvs)) : Rt.DictObj s a := by
  obtain ⟨_, _, vs, _, o, es, ep, ho, ex, hd, _⟩ := dk_of I.hok h
  obtain ⟨cls, dd, data, sl⟩ := o
  have hc : cls = .type "dict" := ex.1
  subst hc
  have hd' : data = .dict es ep := hd
  subst hd'
  exact ⟨dd, es, ep, sl, ho⟩
theorem box_at (I : L2.Inv X pins σ H s) {a : Addr} (h : BoxV X.K H a) (hu : A.units < cLine) (b : Str) (u : Tok) : SeqAt.RcAt A s (.ref a) (.str b u) false ∧ SeqAt.RcAt A s (.str b u) (.ref a) false ∧ SeqAt.RcNeAt A s (.ref a) (.str b u) true := by
  rcases h with ⟨xs, h⟩ | ⟨xs, h⟩ | ⟨kvs, h⟩
  · obtain ⟨its, _, pl, _⟩ := I.list h
    have q := KV.isL pl
    exact ⟨SeqAt.RcAt.list_str b u q hu, SeqAt.RcAt.str_list b u q hu, SeqAt.RcNeAt.list_str b u q hu⟩
  · obtain ⟨its, _, q, _⟩ := I.tuple h
    exact ⟨SeqAt.RcAt.tuple_str b u q hu, SeqAt.RcAt.str_tuple b u q hu, SeqAt.RcNeAt.tuple_str b u q hu⟩
  · have q := box_dict I h
    exact ⟨Rt.dict_str b u q hu, Rt.str_dict b u q hu, Rt.dict_strN b u q hu⟩
theorem scal_str {x : V} {z : Str} (h : flatV x = true) : scal x (.str z) = true := by
  cases x <;> first | rfl | exact nomatch (show false = true from h)
theorem op_eqS (hK : X.K = K) (hu : X.A.units + 64 < cLine) : OpR X (compareOp .Eq) (rEqS K false) := by
  subst hK
  intro pins s σ H x y v u Q I rx ry h
  obtain ⟨z, rfl, av, q⟩ := h
  rcases av with fl | ⟨a, rfl, bx⟩
  · exact op_eq pins s σ H _ _ v u Q I rx ry ⟨scal_str fl, q⟩
  · obtain rfl : v = Value.ref a := rx
    obtain ⟨t, rfl⟩ := ry
    have z : (if false = true then !decide (V.ref a = V.str z) else decide (V.ref a = V.str z)) = false := by simp
    rw [z] at q
    exact (box_at I bx (Nat.lt_of_le_of_lt (Nat.le_add_right _ _) hu) _ t).1 X.prog X.w _ _ ⟨.bl false, H, I, rfl, q⟩
theorem op_neS (hK : X.K = K) (hu : X.A.units + 64 < cLine) : OpR X (compareOp .NotEq) (rEqS K true) := by
  subst hK
  intro pins s σ H x y v u Q I rx ry h
  obtain ⟨z, rfl, av, q⟩ := h
  rcases av with fl | ⟨a, rfl, bx⟩
  · exact op_ne pins s σ H _ _ v u Q I rx ry ⟨scal_str fl, q⟩
  · obtain rfl : v = Value.ref a := rx
    obtain ⟨t, rfl⟩ := ry
    have z : (if true = true then !decide (V.ref a = V.str z) else decide (V.ref a = V.str z)) = true := by simp
    rw [z] at q
    exact (box_at I bx (Nat.lt_of_le_of_lt (Nat.le_add_right _ _) hu) _ t).2.2 X.prog X.w _ _ ⟨.bl true, H, I, rfl, q⟩
theorem flat_strs : ∀ gs : List Str, (gs.map V.str).all flatV = true
  | [] => rfl
  | _ :: gs => flat_strs gs
theorem inV_any {x : V} (fl : flatV x = true) : ∀ zs : List Str, inV x (zs.map V.str) = decide (∃ z ∈ zs, x = .str z)
  | [] => by simp [inV]
  | z :: zs => by
    have ih := inV_any fl zs
    unfold inV at ih ⊢
    rw [List.map_cons, List.any_cons, ih]
    have e : eqV (.str z) x = decide (x = .str z) := by
      cases x with
      | str w =>
        by_cases h : w = z
        · subst h; simp [eqV]
        · simp [eqV, h, Ne.symm h]
      | _ => simp [eqV]
    rw [e, Bool.eq_iff_iff]
    simp
theorem vals_strs {us : List Value} : ∀ {zs : List Str}, Vals (zs.map V.str) us → ∀ w ∈ us, ∃ (z : Str) (t : Tok), w = .str z t := by
  induction us with
  | nil => exact fun _ w hw => nomatch hw
  | cons u us ih =>
    intro zs r w hw
    match zs, r with
    | z :: zs, .cons r1 r2 =>
      rcases List.mem_cons.mp hw with rfl | hw
      · obtain ⟨t, e⟩ := r1
        exact ⟨z, t, e⟩
      · exact ih r2 w hw
theorem op_inS (hK : X.K = K) (hu : X.A.units + 64 < cLine) : OpR X (compareOp .In) (rInS K false) := by
  subst hK
  intro pins s σ H x y v u Q I rx ry h
  obtain ⟨p, zs, rfl, hq, av, q⟩ := h
  rcases av with fl | ⟨a, rfl, bx⟩
  · exact op_in_seq pins s σ H x _ v u Q I rx ry ⟨p, _, rfl, .inr hq, fl, flat_strs _, by rw [inV_any fl]; exact q⟩
  · obtain rfl : v = Value.ref a := rx
    obtain rfl : u = Value.ref p := ry
    obtain ⟨its, r, pl, hz⟩ := I.tuple hq
    have no : decide (∃ z ∈ zs, V.ref a = V.str z) = false := by simp
    rw [no] at q
    refine SeqAt.in_tupleAt (fun _ => false) pl (fun w hw => ?_) ⟨.bl _, H, I, rfl, ?_⟩
    · obtain ⟨z, t, rfl⟩ := vals_strs r w (by simpa using hw)
      exact Rt.eqAt_of (box_at I bx (by have e : X.A.in1.units = X.A.units + 1 := rfl; omega) z t).2.1
    · have : its.toArray.any (fun _ => false) = false := by simp
      rw [this]
      exact q
theorem op_notInS (hK : X.K = K) (hu : X.A.units + 64 < cLine) : OpR X (compareOp .NotIn) (rInS K true) := by
  subst hK
  intro pins s σ H x y v u Q I rx ry h
  obtain ⟨p, zs, rfl, hq, av, q⟩ := h
  rcases av with fl | ⟨a, rfl, bx⟩
  · exact op_notIn_seq pins s σ H x _ v u Q I rx ry ⟨p, _, rfl, .inr hq, fl, flat_strs _, by rw [inV_any fl]; exact q⟩
  · obtain rfl : v = Value.ref a := rx
    obtain rfl : u = Value.ref p := ry
    obtain ⟨its, r, pl, hz⟩ := I.tuple hq
    have no : decide (∃ z ∈ zs, V.ref a = V.str z) = false := by simp
    rw [no] at q
    refine SeqAt.notIn_tupleAt (fun _ => false) pl (fun w hw => ?_) ⟨.bl _, H, I, rfl, ?_⟩
    · obtain ⟨z, t, rfl⟩ := vals_strs r w (by simpa using hw)
      exact Rt.eqAt_of (box_at I bx (by have e : X.A.in1.units = X.A.units + 1 := rfl; omega) z t).2.1
    · have : its.toArray.any (fun _ => false) = false := by simp
      rw [this]
      exact q
end
section
variable {K : PySem.W.Frag} {H : Hp} {x : V} {z : Str} {p : Addr} {zs : List Str} {neg : Bool}
theorem rv_eqS (h : AnyV K H x) : RV (rEqS K neg) x (.str z) H (.bl (if neg then !decide (x = .str z) else decide (x = .str z))) := fun H1 e Q k => ⟨z, rfl, h.mono e, k H1 (Ex.refl H1)⟩
theorem rv_inS (h : AnyV K H x) (hp : SqT K H p (zs.map V.str)) : RV (rInS K neg) x (.ref p) H (.bl (if neg then !decide (∃ z ∈ zs, x = .str z) else decide (∃ z ∈ zs, x = .str z))) := fun H1 e Q k => ⟨p, zs, rfl, ex_t e hp, h.mono e, k H1 (Ex.refl H1)⟩
end
end KW
set_option Elab.async false
set_option linter.all false
set_option maxRecDepth 100000
set_option maxHeartbeats 4000000
namespace KP
open PySem L2
def top (i : Nat) : Stmt := PySem.Challenge.pw_modesdown_k34_lines_made.main.body.getD i (.Pass ⟨0, 0, 0, 0⟩)
abbrev s__wall : Stmt := top 0
abbrev s_is_whole : Stmt := top 3
abbrev s_is_whole_to : Stmt := top 4
abbrev s_is_name : Stmt := top 5
abbrev s_are_unlike_names : Stmt := top 6
abbrev s_BadModeD_initD : Stmt := inClass (top 10) 0
abbrev s_BadKindD_initD : Stmt := inClass (top 11) 0
abbrev s_BadTextD_initD : Stmt := inClass (top 12) 0
abbrev s_ModeD_initD : Stmt := inClass (top 16) 1
abbrev s_Mode_read : Stmt := inClass (top 16) 2
abbrev s_Mode_of : Stmt := inClass (top 16) 3
abbrev s_Mode_uniform : Stmt := inClass (top 16) 4
abbrev s_Mode_number : Stmt := inClass (top 16) 5
abbrev s_Mode_digits : Stmt := inClass (top 16) 6
abbrev s_Mode_pattern : Stmt := inClass (top 16) 7
abbrev s_Mode_with_pattern : Stmt := inClass (top 16) 8
abbrev s_ModeD_orD : Stmt := inClass (top 16) 9
abbrev s_ModeD_rorD : Stmt := inClass (top 16) 10
abbrev s_ModeD_andD : Stmt := inClass (top 16) 11
abbrev s_ModeD_randD : Stmt := inClass (top 16) 12
abbrev s_ModeD_xorD : Stmt := inClass (top 16) 13
abbrev s_ModeD_rxorD : Stmt := inClass (top 16) 14
abbrev s_ModeD_invertD : Stmt := inClass (top 16) 15
abbrev s_ModeD_containsD : Stmt := inClass (top 16) 16
abbrev s_ModeD_lenD : Stmt := inClass (top 16) 17
abbrev s_ModeD_boolD : Stmt := inClass (top 16) 18
abbrev s_ModeD_eqD : Stmt := inClass (top 16) 19
abbrev s_ModeD_strD : Stmt := inClass (top 16) 20
abbrev s_ModeD_reprD : Stmt := inClass (top 16) 21
abbrev s_may_stand : Stmt := top 17
abbrev s_number_of : Stmt := top 18
abbrev s_are_told : Stmt := top 21
abbrev s_is_mode : Stmt := top 22
abbrev s_ascending : Stmt := top 23
abbrev s_LineD_initD : Stmt := inClass (top 24) 0
abbrev s_Line_form : Stmt := inClass (top 24) 1
abbrev s_Line_owners : Stmt := inClass (top 24) 2
abbrev s_Line_groups : Stmt := inClass (top 24) 3
abbrev s_Line_must : Stmt := inClass (top 24) 4
abbrev s_Line_never : Stmt := inClass (top 24) 5
abbrev s_Line_lets_names : Stmt := inClass (top 24) 6
abbrev s_Line_lets : Stmt := inClass (top 24) 7
abbrev s_Line_patterns : Stmt := inClass (top 24) 8
abbrev s_LineD_eqD : Stmt := inClass (top 24) 9
abbrev s__law_pen : Stmt := top 26
abbrev s__law_draw : Stmt := top 27
abbrev s__law_pick : Stmt := top 28
abbrev s__law_names : Stmt := top 29
abbrev s__law_line : Stmt := top 30
abbrev s__law_shown : Stmt := top 31
abbrev s__law_even : Stmt := top 32
abbrev s__law_is_name : Stmt := top 33
abbrev s__law_is_told : Stmt := top 34
abbrev s__law_number : Stmt := top 35
abbrev s__law_due : Stmt := top 36
abbrev s__law_heard : Stmt := top 37
abbrev s__law_odd_right : Stmt := top 38
abbrev s_law : Stmt := top 39
abbrev n__wall : List Str := ["k"]
theorem sc__wall : FnScope n__wall ["k"] (defScope s__wall) := ⟨rfl, rfl, rfl, by decide +kernel, rfl, by decide +kernel, by decide +kernel⟩
abbrev n_is_whole : List Str := ["value"]
theorem sc_is_whole : FnScope n_is_whole ["value"] (defScope s_is_whole) := ⟨rfl, rfl, rfl, by decide +kernel, rfl, by decide +kernel, by decide +kernel⟩
abbrev n_is_whole_to : List Str := ["value", "most"]
theorem sc_is_whole_to : FnScope n_is_whole_to ["value", "most"] (defScope s_is_whole_to) := ⟨rfl, rfl, rfl, by decide +kernel, rfl, by decide +kernel, by decide +kernel⟩
abbrev n_is_name : List Str := ["value", "letter"]
theorem sc_is_name : FnScope n_is_name ["value"] (defScope s_is_name) := ⟨rfl, rfl, rfl, by decide +kernel, rfl, by decide +kernel, by decide +kernel⟩
abbrev n_are_unlike_names : List Str := ["values", "value"]
theorem sc_are_unlike_names : FnScope n_are_unlike_names ["values"] (defScope s_are_unlike_names) := ⟨rfl, rfl, rfl, by decide +kernel, rfl, by decide +kernel, by decide +kernel⟩
abbrev n_BadModeD_initD : List Str := ["self", "part"]
theorem sc_BadModeD_initD : FnScope n_BadModeD_initD ["self", "part"] (defScope s_BadModeD_initD) := ⟨rfl, rfl, rfl, by decide +kernel, rfl, by decide +kernel, by decide +kernel⟩
abbrev n_BadKindD_initD : List Str := ["self", "at"]
theorem sc_BadKindD_initD : FnScope n_BadKindD_initD ["self", "at"] (defScope s_BadKindD_initD) := ⟨rfl, rfl, rfl, by decide +kernel, rfl, by decide +kernel, by decide +kernel⟩
abbrev n_BadTextD_initD : List Str := ["self", "line", "word"]
theorem sc_BadTextD_initD : FnScope n_BadTextD_initD ["self", "line", "word"] (defScope s_BadTextD_initD) := ⟨rfl, rfl, rfl, by decide +kernel, rfl, by decide +kernel, by decide +kernel⟩
abbrev n_ModeD_initD : List Str := ["self", "number"]
theorem sc_ModeD_initD : FnScope n_ModeD_initD ["self", "number"] (defScope s_ModeD_initD) := ⟨rfl, rfl, rfl, by decide +kernel, rfl, by decide +kernel, by decide +kernel⟩
abbrev n_Mode_read : List Str := ["cls", "text", "number", "at", "sign"]
theorem sc_Mode_read : FnScope n_Mode_read ["cls", "text"] (defScope s_Mode_read) := ⟨rfl, rfl, rfl, by decide +kernel, rfl, by decide +kernel, by decide +kernel⟩
abbrev n_Mode_of : List Str := ["owner", "group", "others", "part", "digit"]
theorem sc_Mode_of : FnScope n_Mode_of ["owner", "group", "others"] (defScope s_Mode_of) := ⟨rfl, rfl, rfl, by decide +kernel, rfl, by decide +kernel, by decide +kernel⟩
abbrev n_Mode_uniform : List Str := ["pattern"]
theorem sc_Mode_uniform : FnScope n_Mode_uniform ["pattern"] (defScope s_Mode_uniform) := ⟨rfl, rfl, rfl, by decide +kernel, rfl, by decide +kernel, by decide +kernel⟩
abbrev n_Mode_number : List Str := ["self"]
theorem sc_Mode_number : FnScope n_Mode_number ["self"] (defScope s_Mode_number) := ⟨rfl, rfl, rfl, by decide +kernel, rfl, by decide +kernel, by decide +kernel⟩
abbrev n_Mode_digits : List Str := ["self"]
theorem sc_Mode_digits : FnScope n_Mode_digits ["self"] (defScope s_Mode_digits) := ⟨rfl, rfl, rfl, by decide +kernel, rfl, by decide +kernel, by decide +kernel⟩
abbrev n_Mode_pattern : List Str := ["self", "letter"]
theorem sc_Mode_pattern : FnScope n_Mode_pattern ["self", "letter"] (defScope s_Mode_pattern) := ⟨rfl, rfl, rfl, by decide +kernel, rfl, by decide +kernel, by decide +kernel⟩
abbrev n_Mode_with_pattern : List Str := ["self", "letter", "pattern"]
theorem sc_Mode_with_pattern : FnScope n_Mode_with_pattern ["self", "letter", "pattern"] (defScope s_Mode_with_pattern) := ⟨rfl, rfl, rfl, by decide +kernel, rfl, by decide +kernel, by decide +kernel⟩
abbrev n_ModeD_orD : List Str := ["self", "other"]
theorem sc_ModeD_orD : FnScope n_ModeD_orD ["self", "other"] (defScope s_ModeD_orD) := ⟨rfl, rfl, rfl, by decide +kernel, rfl, by decide +kernel, by decide +kernel⟩
abbrev n_ModeD_rorD : List Str := ["self", "other"]
theorem sc_ModeD_rorD : FnScope n_ModeD_rorD ["self", "other"] (defScope s_ModeD_rorD) := ⟨rfl, rfl, rfl, by decide +kernel, rfl, by decide +kernel, by decide +kernel⟩
abbrev n_ModeD_andD : List Str := ["self", "other"]
theorem sc_ModeD_andD : FnScope n_ModeD_andD ["self", "other"] (defScope s_ModeD_andD) := ⟨rfl, rfl, rfl, by decide +kernel, rfl, by decide +kernel, by decide +kernel⟩
abbrev n_ModeD_randD : List Str := ["self", "other"]
theorem sc_ModeD_randD : FnScope n_ModeD_randD ["self", "other"] (defScope s_ModeD_randD) := ⟨rfl, rfl, rfl, by decide +kernel, rfl, by decide +kernel, by decide +kernel⟩
abbrev n_ModeD_xorD : List Str := ["self", "other"]
theorem sc_ModeD_xorD : FnScope n_ModeD_xorD ["self", "other"] (defScope s_ModeD_xorD) := ⟨rfl, rfl, rfl, by decide +kernel, rfl, by decide +kernel, by decide +kernel⟩
abbrev n_ModeD_rxorD : List Str := ["self", "other"]
theorem sc_ModeD_rxorD : FnScope n_ModeD_rxorD ["self", "other"] (defScope s_ModeD_rxorD) := ⟨rfl, rfl, rfl, by decide +kernel, rfl, by decide +kernel, by decide +kernel⟩
abbrev n_ModeD_invertD : List Str := ["self"]
theorem sc_ModeD_invertD : FnScope n_ModeD_invertD ["self"] (defScope s_ModeD_invertD) := ⟨rfl, rfl, rfl, by decide +kernel, rfl, by decide +kernel, by decide +kernel⟩
abbrev n_ModeD_containsD : List Str := ["self", "bit", "bits"]
theorem sc_ModeD_containsD : FnScope n_ModeD_containsD ["self", "bit"] (defScope s_ModeD_containsD) := ⟨rfl, rfl, rfl, by decide +kernel, rfl, by decide +kernel, by decide +kernel⟩
abbrev n_ModeD_lenD : List Str := ["self", "bit"]
theorem sc_ModeD_lenD : FnScope n_ModeD_lenD ["self"] (defScope s_ModeD_lenD) := ⟨rfl, rfl, rfl, by decide +kernel, rfl, by decide +kernel, by decide +kernel⟩
abbrev n_ModeD_boolD : List Str := ["self"]
theorem sc_ModeD_boolD : FnScope n_ModeD_boolD ["self"] (defScope s_ModeD_boolD) := ⟨rfl, rfl, rfl, by decide +kernel, rfl, by decide +kernel, by decide +kernel⟩
abbrev n_ModeD_eqD : List Str := ["self", "other"]
theorem sc_ModeD_eqD : FnScope n_ModeD_eqD ["self", "other"] (defScope s_ModeD_eqD) := ⟨rfl, rfl, rfl, by decide +kernel, rfl, by decide +kernel, by decide +kernel⟩
abbrev n_ModeD_strD : List Str := ["self", "sign", "bit"]
theorem sc_ModeD_strD : FnScope n_ModeD_strD ["self"] (defScope s_ModeD_strD) := ⟨rfl, rfl, rfl, by decide +kernel, rfl, by decide +kernel, by decide +kernel⟩
abbrev n_ModeD_reprD : List Str := ["self"]
theorem sc_ModeD_reprD : FnScope n_ModeD_reprD ["self"] (defScope s_ModeD_reprD) := ⟨rfl, rfl, rfl, by decide +kernel, rfl, by decide +kernel, by decide +kernel⟩
abbrev n_may_stand : List Str := ["value"]
theorem sc_may_stand : FnScope n_may_stand ["value"] (defScope s_may_stand) := ⟨rfl, rfl, rfl, by decide +kernel, rfl, by decide +kernel, by decide +kernel⟩
abbrev n_number_of : List Str := ["mode"]
theorem sc_number_of : FnScope n_number_of ["mode"] (defScope s_number_of) := ⟨rfl, rfl, rfl, by decide +kernel, rfl, by decide +kernel, by decide +kernel⟩
abbrev n_are_told : List Str := ["names"]
theorem sc_are_told : FnScope n_are_told ["names"] (defScope s_are_told) := ⟨rfl, rfl, rfl, by decide +kernel, rfl, by decide +kernel, by decide +kernel⟩
abbrev n_is_mode : List Str := ["value"]
theorem sc_is_mode : FnScope n_is_mode ["value"] (defScope s_is_mode) := ⟨rfl, rfl, rfl, by decide +kernel, rfl, by decide +kernel, by decide +kernel⟩
abbrev n_ascending : List Str := ["names"]
theorem sc_ascending : FnScope n_ascending ["names"] (defScope s_ascending) := ⟨rfl, rfl, rfl, by decide +kernel, rfl, by decide +kernel, by decide +kernel⟩
abbrev n_LineD_initD : List Str := ["self", "form", "owners", "groups", "must", "never"]
theorem sc_LineD_initD : FnScope n_LineD_initD ["self", "form", "owners", "groups", "must", "never"] (defScope s_LineD_initD) := ⟨rfl, rfl, rfl, by decide +kernel, rfl, by decide +kernel, by decide +kernel⟩
abbrev n_Line_form : List Str := ["self"]
theorem sc_Line_form : FnScope n_Line_form ["self"] (defScope s_Line_form) := ⟨rfl, rfl, rfl, by decide +kernel, rfl, by decide +kernel, by decide +kernel⟩
abbrev n_Line_owners : List Str := ["self"]
theorem sc_Line_owners : FnScope n_Line_owners ["self"] (defScope s_Line_owners) := ⟨rfl, rfl, rfl, by decide +kernel, rfl, by decide +kernel, by decide +kernel⟩
abbrev n_Line_groups : List Str := ["self"]
theorem sc_Line_groups : FnScope n_Line_groups ["self"] (defScope s_Line_groups) := ⟨rfl, rfl, rfl, by decide +kernel, rfl, by decide +kernel, by decide +kernel⟩
abbrev n_Line_must : List Str := ["self"]
theorem sc_Line_must : FnScope n_Line_must ["self"] (defScope s_Line_must) := ⟨rfl, rfl, rfl, by decide +kernel, rfl, by decide +kernel, by decide +kernel⟩
abbrev n_Line_never : List Str := ["self"]
theorem sc_Line_never : FnScope n_Line_never ["self"] (defScope s_Line_never) := ⟨rfl, rfl, rfl, by decide +kernel, rfl, by decide +kernel, by decide +kernel⟩
abbrev n_Line_lets_names : List Str := ["self", "owner", "group", "owned"]
theorem sc_Line_lets_names : FnScope n_Line_lets_names ["self", "owner", "group"] (defScope s_Line_lets_names) := ⟨rfl, rfl, rfl, by decide +kernel, rfl, by decide +kernel, by decide +kernel⟩
abbrev n_Line_lets : List Str := ["self", "form", "mode", "owner", "group", "number", "must"]
theorem sc_Line_lets : FnScope n_Line_lets ["self", "form", "mode", "owner", "group"] (defScope s_Line_lets) := ⟨rfl, rfl, rfl, by decide +kernel, rfl, by decide +kernel, by decide +kernel⟩
abbrev n_Line_patterns : List Str := ["self", "letter"]
theorem sc_Line_patterns : FnScope n_Line_patterns ["self", "letter"] (defScope s_Line_patterns) := ⟨rfl, rfl, rfl, by decide +kernel, rfl, by decide +kernel, by decide +kernel⟩
abbrev n_LineD_eqD : List Str := ["self", "other"]
theorem sc_LineD_eqD : FnScope n_LineD_eqD ["self", "other"] (defScope s_LineD_eqD) := ⟨rfl, rfl, rfl, by decide +kernel, rfl, by decide +kernel, by decide +kernel⟩
abbrev n__law_pen : List Str := ["_law_script"]
theorem sc__law_pen : FnScope n__law_pen ["_law_script"] (defScope s__law_pen) := ⟨rfl, rfl, rfl, by decide +kernel, rfl, by decide +kernel, by decide +kernel⟩
abbrev n__law_draw : List Str := ["_law_pen_here", "_law_many", "_law_digit", "_law_at", "_law_cell", "_law_great", "_law_mixed"]
theorem sc__law_draw : FnScope n__law_draw ["_law_pen_here", "_law_many"] (defScope s__law_draw) := ⟨rfl, rfl, rfl, by decide +kernel, rfl, by decide +kernel, by decide +kernel⟩
abbrev n__law_pick : List Str := ["_law_pen_here", "_law_some"]
theorem sc__law_pick : FnScope n__law_pick ["_law_pen_here", "_law_some"] (defScope s__law_pick) := ⟨rfl, rfl, rfl, by decide +kernel, rfl, by decide +kernel, by decide +kernel⟩
abbrev n__law_names : List Str := ["_law_pen_here", "_law_many", "_law_letters", "_law_k", "_law_stem", "_law_first", "_law_hop", "_law_found", "_law_sign"]
theorem sc__law_names : FnScope n__law_names ["_law_pen_here", "_law_many"] (defScope s__law_names) := ⟨rfl, rfl, rfl, by decide +kernel, rfl, by decide +kernel, by decide +kernel⟩
abbrev n__law_line : List Str := ["_law_pen_here", "_law_names_here", "_law_owners_so", "_law_groups_so", "_law_must_so", "_law_never_so"]
theorem sc__law_line : FnScope n__law_line ["_law_pen_here", "_law_names_here"] (defScope s__law_line) := ⟨rfl, rfl, rfl, by decide +kernel, rfl, by decide +kernel, by decide +kernel⟩
abbrev n__law_shown : List Str := ["_law_line_here"]
theorem sc__law_shown : FnScope n__law_shown ["_law_line_here"] (defScope s__law_shown) := ⟨rfl, rfl, rfl, by decide +kernel, rfl, by decide +kernel, by decide +kernel⟩
abbrev n__law_even : List Str := ["_law_told", "_law_some", "_law_names_here", "_law_name"]
theorem sc__law_even : FnScope n__law_even ["_law_told"] (defScope s__law_even) := ⟨rfl, rfl, rfl, by decide +kernel, rfl, by decide +kernel, by decide +kernel⟩
abbrev n__law_is_name : List Str := ["_law_thing", "_law_letters", "_law_sign"]
theorem sc__law_is_name : FnScope n__law_is_name ["_law_thing"] (defScope s__law_is_name) := ⟨rfl, rfl, rfl, by decide +kernel, rfl, by decide +kernel, by decide +kernel⟩
abbrev n__law_is_told : List Str := ["_law_thing", "_law_one"]
theorem sc__law_is_told : FnScope n__law_is_told ["_law_thing"] (defScope s__law_is_told) := ⟨rfl, rfl, rfl, by decide +kernel, rfl, by decide +kernel, by decide +kernel⟩
abbrev n__law_number : List Str := ["_law_thing"]
theorem sc__law_number : FnScope n__law_number ["_law_thing"] (defScope s__law_number) := ⟨rfl, rfl, rfl, by decide +kernel, rfl, by decide +kernel, by decide +kernel⟩
abbrev n__law_due : List Str := ["_law_form_so", "_law_owners_so", "_law_groups_so", "_law_must_so", "_law_never_so"]
theorem sc__law_due : FnScope n__law_due ["_law_form_so", "_law_owners_so", "_law_groups_so", "_law_must_so", "_law_never_so"] (defScope s__law_due) := ⟨rfl, rfl, rfl, by decide +kernel, rfl, by decide +kernel, by decide +kernel⟩
abbrev n__law_heard : List Str := ["_law_ask", "_law_caught", "_law_found", "error"]
theorem sc__law_heard : FnScope n__law_heard ["_law_ask"] (defScope s__law_heard) := ⟨rfl, rfl, rfl, by decide +kernel, rfl, by decide +kernel, by decide +kernel⟩
abbrev n__law_odd_right : List Str := ["_law_pen_here", "_law_told", "_law_names_here", "_law_odd", "_law_bad", "_law_some", "_law_at", "_law_due_here", "_law_found", "_law_even_here", "_law_one", "_law_p", "_law_k"]
theorem sc__law_odd_right : FnScope n__law_odd_right ["_law_pen_here", "_law_told", "_law_names_here"] (defScope s__law_odd_right) := ⟨rfl, rfl, rfl, by decide +kernel, rfl, by decide +kernel, by decide +kernel⟩
abbrev n_law : List Str := ["_law_script", "_law_pen_here", "_law_past", "_law_turn", "_law_names_here", "_law_told", "_law_lent", "_law_line_here", "_law_is_alike"]
theorem sc_law : FnScope n_law ["_law_script"] (defScope s_law) := ⟨rfl, rfl, rfl, by decide +kernel, rfl, by decide +kernel, by decide +kernel⟩
end KP
set_option Elab.async false
set_option linter.all false
set_option maxRecDepth 100000
set_option maxHeartbeats 4000000
namespace KP
open PySem PySem.Spec PyProof.Rows L2 Evl
structure Ads where
  f_is_whole : Addr
  d_is_whole : FuncData
  f_is_whole_to : Addr
  d_is_whole_to : FuncData
  f_is_name : Addr
  d_is_name : FuncData
  f_are_unlike_names : Addr
  d_are_unlike_names : FuncData
  f_number_of : Addr
  d_number_of : FuncData
  f_are_told : Addr
  d_are_told : FuncData
  f_is_mode : Addr
  d_is_mode : FuncData
  f_ascending : Addr
  d_ascending : FuncData
  f__law_pen : Addr
  d__law_pen : FuncData
  f__law_draw : Addr
  d__law_draw : FuncData
  f__law_pick : Addr
  d__law_pick : FuncData
  f__law_names : Addr
  d__law_names : FuncData
  f__law_line : Addr
  d__law_line : FuncData
  f__law_shown : Addr
  d__law_shown : FuncData
  f__law_even : Addr
  d__law_even : FuncData
  f__law_is_name : Addr
  d__law_is_name : FuncData
  f__law_is_told : Addr
  d__law_is_told : FuncData
  f__law_number : Addr
  d__law_number : FuncData
  f__law_due : Addr
  d__law_due : FuncData
  f__law_heard : Addr
  d__law_heard : FuncData
  f__law_odd_right : Addr
  d__law_odd_right : FuncData
  f_Mode : Addr
  f_ModeD_initD : Addr
  d_ModeD_initD : FuncData
  f_Mode_number : Addr
  d_Mode_number : FuncData
  p_Mode_number : Addr
  f_ModeD_eqD : Addr
  d_ModeD_eqD : FuncData
  f_Line : Addr
  f_LineD_initD : Addr
  d_LineD_initD : FuncData
  f_Line_form : Addr
  d_Line_form : FuncData
  p_Line_form : Addr
  f_Line_owners : Addr
  d_Line_owners : FuncData
  p_Line_owners : Addr
  f_Line_groups : Addr
  d_Line_groups : FuncData
  p_Line_groups : Addr
  f_Line_must : Addr
  d_Line_must : FuncData
  p_Line_must : Addr
  f_Line_never : Addr
  d_Line_never : FuncData
  p_Line_never : Addr
  f_LineD_eqD : Addr
  d_LineD_eqD : FuncData
  k_FORMS : Addr
  x_BadKind : Addr
  x_BadInput : Addr
  x_ModesError : Addr
  f_BadKindD_initD : Addr
  d_BadKindD_initD : FuncData
  cR : Addr
  PR : Addr
structure Txt (w : World) (K : PySem.W.Frag) (mg : Str → Option Value) (a : Ads) : Prop where
  b_isinstance : mg "isinstance" = none
  b_int : mg "int" = none
  b_str : mg "str" = none
  b_bool : mg "bool" = none
  b_list : mg "list" = none
  b_len : mg "len" = none
  b_abs : mg "abs" = none
  b_range : mg "range" = none
  b_tuple : mg "tuple" = none
  b_all : mg "all" = none
  b_set : mg "set" = none
  b_sorted : mg "sorted" = none
  b_repr : mg "repr" = none
  mg_is_whole : mg "is_whole" = some (.ref a.f_is_whole)
  fn_is_whole : Fun K "is_whole" "is_whole" s_is_whole a.f_is_whole a.d_is_whole
  mg_is_whole_to : mg "is_whole_to" = some (.ref a.f_is_whole_to)
  fn_is_whole_to : Fun K "is_whole_to" "is_whole_to" s_is_whole_to a.f_is_whole_to a.d_is_whole_to
  mg_is_name : mg "is_name" = some (.ref a.f_is_name)
  fn_is_name : Fun K "is_name" "is_name" s_is_name a.f_is_name a.d_is_name
  mg_are_unlike_names : mg "are_unlike_names" = some (.ref a.f_are_unlike_names)
  fn_are_unlike_names : Fun K "are_unlike_names" "are_unlike_names" s_are_unlike_names a.f_are_unlike_names a.d_are_unlike_names
  mg_number_of : mg "number_of" = some (.ref a.f_number_of)
  fn_number_of : Fun K "number_of" "number_of" s_number_of a.f_number_of a.d_number_of
  mg_are_told : mg "are_told" = some (.ref a.f_are_told)
  fn_are_told : Fun K "are_told" "are_told" s_are_told a.f_are_told a.d_are_told
  mg_is_mode : mg "is_mode" = some (.ref a.f_is_mode)
  fn_is_mode : Fun K "is_mode" "is_mode" s_is_mode a.f_is_mode a.d_is_mode
  mg_ascending : mg "ascending" = some (.ref a.f_ascending)
  fn_ascending : Fun K "ascending" "ascending" s_ascending a.f_ascending a.d_ascending
  mg__law_pen : mg "_law_pen" = some (.ref a.f__law_pen)
  fn__law_pen : Fun K "_law_pen" "_law_pen" s__law_pen a.f__law_pen a.d__law_pen
  mg__law_draw : mg "_law_draw" = some (.ref a.f__law_draw)
  fn__law_draw : Fun K "_law_draw" "_law_draw" s__law_draw a.f__law_draw a.d__law_draw
  mg__law_pick : mg "_law_pick" = some (.ref a.f__law_pick)
  fn__law_pick : Fun K "_law_pick" "_law_pick" s__law_pick a.f__law_pick a.d__law_pick
  mg__law_names : mg "_law_names" = some (.ref a.f__law_names)
  fn__law_names : Fun K "_law_names" "_law_names" s__law_names a.f__law_names a.d__law_names
  mg__law_line : mg "_law_line" = some (.ref a.f__law_line)
  fn__law_line : Fun K "_law_line" "_law_line" s__law_line a.f__law_line a.d__law_line
  mg__law_shown : mg "_law_shown" = some (.ref a.f__law_shown)
  fn__law_shown : Fun K "_law_shown" "_law_shown" s__law_shown a.f__law_shown a.d__law_shown
  mg__law_even : mg "_law_even" = some (.ref a.f__law_even)
  fn__law_even : Fun K "_law_even" "_law_even" s__law_even a.f__law_even a.d__law_even
  mg__law_is_name : mg "_law_is_name" = some (.ref a.f__law_is_name)
  fn__law_is_name : Fun K "_law_is_name" "_law_is_name" s__law_is_name a.f__law_is_name a.d__law_is_name
  mg__law_is_told : mg "_law_is_told" = some (.ref a.f__law_is_told)
  fn__law_is_told : Fun K "_law_is_told" "_law_is_told" s__law_is_told a.f__law_is_told a.d__law_is_told
  mg__law_number : mg "_law_number" = some (.ref a.f__law_number)
  fn__law_number : Fun K "_law_number" "_law_number" s__law_number a.f__law_number a.d__law_number
  mg__law_due : mg "_law_due" = some (.ref a.f__law_due)
  fn__law_due : Fun K "_law_due" "_law_due" s__law_due a.f__law_due a.d__law_due
  mg__law_heard : mg "_law_heard" = some (.ref a.f__law_heard)
  fn__law_heard : Fun K "_law_heard" "_law_heard" s__law_heard a.f__law_heard a.d__law_heard
  mg__law_odd_right : mg "_law_odd_right" = some (.ref a.f__law_odd_right)
  fn__law_odd_right : Fun K "_law_odd_right" "_law_odd_right" s__law_odd_right a.f__law_odd_right a.d__law_odd_right
  at__law_odd_right : ∃ oc od kV doc pm an ct osl, a.d__law_odd_right = PySem.W.fnOf "_law_odd_right" "_law_odd_right" (defArgs s__law_odd_right) (defBody s__law_odd_right) (defScope s__law_odd_right) .none kV doc pm an (.ref a.cR) ct ∧ K.lookup a.f__law_odd_right = some ⟨oc, od, .func a.d__law_odd_right, osl⟩
  co__law_odd_right : PySem.W.codeIn K (.ref a.cR) "_law_odd_right" = true
  mg_Mode : mg "Mode" = some (.ref a.f_Mode)
  c_Mode : Cls K a.f_Mode
  n_number_Mode : NoAttr K a.f_Mode "_number"
  mk_Mode : Mk K a.f_Mode a.f_ModeD_initD
  fn_ModeD_initD : Fun K "__init__" "Mode.__init__" s_ModeD_initD a.f_ModeD_initD a.d_ModeD_initD
  p_Mode_number : PropOf K a.f_Mode "number" a.p_Mode_number a.f_Mode_number
  fn_Mode_number : Fun K "number" "Mode.number" s_Mode_number a.f_Mode_number a.d_Mode_number
  m_ModeD_eqD : Meth K a.f_Mode "__eq__" a.f_ModeD_eqD
  fn_ModeD_eqD : Fun K "__eq__" "Mode.__eq__" s_ModeD_eqD a.f_ModeD_eqD a.d_ModeD_eqD
  r_Mode : ClX.CRead K a.f_Mode (.type "type")
  k_Mode_MOST : ∃ t, ClX.CVal K a.f_Mode (.type "type") "MOST" (.int 511) (.int 511 t)
  ia_Mode : PySem.W.findIn K (.ref a.f_Mode) "__class__" = some (some (.builtin "object.__class__"))
  im_Mode : PySem.W.mroIn K a.f_Mode (.type "object") = some true
  is_Mode : PySem.W.kitOne K (.ref a.f_Mode) (.ref a.f_Mode) = some true
  nt_Mode_str : PySem.W.kitOne K (.type "str") (.ref a.f_Mode) = some false
  nt_Mode_tuple : PySem.W.kitOne K (.type "tuple") (.ref a.f_Mode) = some false
  nt_Mode_int : PySem.W.kitOne K (.type "int") (.ref a.f_Mode) = some false
  nt_Mode_NoneType : PySem.W.kitOne K (.type "NoneType") (.ref a.f_Mode) = some false
  nt_Mode_bool : PySem.W.kitOne K (.type "bool") (.ref a.f_Mode) = some false
  nt_Mode_list : PySem.W.kitOne K (.type "list") (.ref a.f_Mode) = some false
  nt_Mode_dict : PySem.W.kitOne K (.type "dict") (.ref a.f_Mode) = some false
  en_Mode : PySem.W.findIn K (.ref a.f_Mode) "__ne__" = some (some (.builtin "object.__ne__"))
  nf_Mode : PySem.W.notFirst K a.f_Mode (.ref a.f_Mode) = true
  mi_Mode_int : PySem.W.kitOne K (.ref a.f_Mode) (.type "int") = some false
  mi_Mode_bool : PySem.W.kitOne K (.ref a.f_Mode) (.type "bool") = some false
  mi_Mode_list : PySem.W.kitOne K (.ref a.f_Mode) (.type "list") = some false
  mi_Mode_tuple : PySem.W.kitOne K (.ref a.f_Mode) (.type "tuple") = some false
  mi_Mode_str : PySem.W.kitOne K (.ref a.f_Mode) (.type "str") = some false
  mg_Line : mg "Line" = some (.ref a.f_Line)
  c_Line : Cls K a.f_Line
  n_form_Line : NoAttr K a.f_Line "_form"
  n_owners_Line : NoAttr K a.f_Line "_owners"
  n_groups_Line : NoAttr K a.f_Line "_groups"
  n_must_Line : NoAttr K a.f_Line "_must"
  n_never_Line : NoAttr K a.f_Line "_never"
  mk_Line : Mk K a.f_Line a.f_LineD_initD
  fn_LineD_initD : FunD K "__init__" "Line.__init__" (defArgs s_LineD_initD) (defBody s_LineD_initD) (defScope s_LineD_initD) [.non, .non, .int 0, .int 0] [] a.f_LineD_initD a.d_LineD_initD
  p_Line_form : PropOf K a.f_Line "form" a.p_Line_form a.f_Line_form
  fn_Line_form : Fun K "form" "Line.form" s_Line_form a.f_Line_form a.d_Line_form
  p_Line_owners : PropOf K a.f_Line "owners" a.p_Line_owners a.f_Line_owners
  fn_Line_owners : Fun K "owners" "Line.owners" s_Line_owners a.f_Line_owners a.d_Line_owners
  p_Line_groups : PropOf K a.f_Line "groups" a.p_Line_groups a.f_Line_groups
  fn_Line_groups : Fun K "groups" "Line.groups" s_Line_groups a.f_Line_groups a.d_Line_groups
  p_Line_must : PropOf K a.f_Line "must" a.p_Line_must a.f_Line_must
  fn_Line_must : Fun K "must" "Line.must" s_Line_must a.f_Line_must a.d_Line_must
  p_Line_never : PropOf K a.f_Line "never" a.p_Line_never a.f_Line_never
  fn_Line_never : Fun K "never" "Line.never" s_Line_never a.f_Line_never a.d_Line_never
  m_LineD_eqD : Meth K a.f_Line "__eq__" a.f_LineD_eqD
  fn_LineD_eqD : Fun K "__eq__" "Line.__eq__" s_LineD_eqD a.f_LineD_eqD a.d_LineD_eqD
  ia_Line : PySem.W.findIn K (.ref a.f_Line) "__class__" = some (some (.builtin "object.__class__"))
  im_Line : PySem.W.mroIn K a.f_Line (.type "object") = some true
  is_Line : PySem.W.kitOne K (.ref a.f_Line) (.ref a.f_Line) = some true
  nt_Line_str : PySem.W.kitOne K (.type "str") (.ref a.f_Line) = some false
  nt_Line_tuple : PySem.W.kitOne K (.type "tuple") (.ref a.f_Line) = some false
  nt_Line_int : PySem.W.kitOne K (.type "int") (.ref a.f_Line) = some false
  nt_Line_NoneType : PySem.W.kitOne K (.type "NoneType") (.ref a.f_Line) = some false
  nt_Line_bool : PySem.W.kitOne K (.type "bool") (.ref a.f_Line) = some false
  nt_Line_list : PySem.W.kitOne K (.type "list") (.ref a.f_Line) = some false
  nt_Line_dict : PySem.W.kitOne K (.type "dict") (.ref a.f_Line) = some false
  en_Line : PySem.W.findIn K (.ref a.f_Line) "__ne__" = some (some (.builtin "object.__ne__"))
  nf_Line : PySem.W.notFirst K a.f_Line (.ref a.f_Line) = true
  mi_Line_int : PySem.W.kitOne K (.ref a.f_Line) (.type "int") = some false
  mi_Line_bool : PySem.W.kitOne K (.ref a.f_Line) (.type "bool") = some false
  mi_Line_list : PySem.W.kitOne K (.ref a.f_Line) (.type "list") = some false
  mi_Line_tuple : PySem.W.kitOne K (.ref a.f_Line) (.type "tuple") = some false
  mi_Line_str : PySem.W.kitOne K (.ref a.f_Line) (.type "str") = some false
  nf_Line_tuple : PySem.W.notFirst K a.f_Line (.type "tuple") = true
  in_ : PySem.W.specialIn K (.builtin "object.__class__") "__get__" = some (some (.builtin "getset_descriptor.__get__"))
  it_ : PySem.W.takesIn K (.builtin "object.__class__") = some true
  mg_LETTERS : ∃ t, mg "LETTERS" = some (.str "abcdefghijklmnopqrstuvwxyz" t)
  mg_FORMS : mg "FORMS" = some (.ref a.k_FORMS)
  t_FORMS : ∀ H, SqT K H a.k_FORMS [.str "file", .str "folder"]
  mg_BadKind : mg "BadKind" = some (.ref a.x_BadKind)
  mg_ModesError : mg "ModesError" = some (.ref a.x_ModesError)
  mg_BadInput : mg "BadInput" = some (.ref a.x_BadInput)
  ks_BadKind : PySem.W.kitOne K (.ref a.x_BadKind) (.ref a.x_BadKind) = some true
  ec_BadKind : ExcC K a.x_BadKind
  ox_BadKind : OexC K a.x_BadKind
  ic_BadKind : PySem.W.findIn K (.ref a.x_BadKind) "__init__" = some (some (.ref a.f_BadKindD_initD))
  it_BadKind : PySem.W.typeIn K (.ref a.f_BadKindD_initD) = some (.type "function")
  fn_BadKindD_initD : Fun K "__init__" "BadKind.__init__" s_BadKindD_initD a.f_BadKindD_initD a.d_BadKindD_initD
  np_BadKind : PySem.W.findIn K (.ref a.x_BadKind) "at" = some none
  ks_BadInput : PySem.W.kitOne K (.ref a.x_BadKind) (.ref a.x_BadInput) = some true
  em_BadKind : PySem.W.exmOne K (.ref a.x_BadKind) (.ref a.x_ModesError) = some true
theorem bd_is_whole {w : World} {K : PySem.W.Frag} {mg : Str → Option Value} {a : Ads} (T : Txt w K mg a) : Binds K a.d_is_whole ["value"] [] := T.fn_is_whole.binds (ps := ["value"]) fun _ _ _ _ _ _ us hl => match us, hl with | [_], _ => rfl
theorem bd_is_whole_to {w : World} {K : PySem.W.Frag} {mg : Str → Option Value} {a : Ads} (T : Txt w K mg a) : Binds K a.d_is_whole_to ["value", "most"] [] := T.fn_is_whole_to.binds (ps := ["value", "most"]) fun _ _ _ _ _ _ us hl => match us, hl with | [_, _], _ => rfl
theorem bd_is_name {w : World} {K : PySem.W.Frag} {mg : Str → Option Value} {a : Ads} (T : Txt w K mg a) : Binds K a.d_is_name ["value"] [] := T.fn_is_name.binds (ps := ["value"]) fun _ _ _ _ _ _ us hl => match us, hl with | [_], _ => rfl
theorem bd_are_unlike_names {w : World} {K : PySem.W.Frag} {mg : Str → Option Value} {a : Ads} (T : Txt w K mg a) : Binds K a.d_are_unlike_names ["values"] [] := T.fn_are_unlike_names.binds (ps := ["values"]) fun _ _ _ _ _ _ us hl => match us, hl with | [_], _ => rfl
theorem bd_number_of {w : World} {K : PySem.W.Frag} {mg : Str → Option Value} {a : Ads} (T : Txt w K mg a) : Binds K a.d_number_of ["mode"] [] := T.fn_number_of.binds (ps := ["mode"]) fun _ _ _ _ _ _ us hl => match us, hl with | [_], _ => rfl
theorem bd_are_told {w : World} {K : PySem.W.Frag} {mg : Str → Option Value} {a : Ads} (T : Txt w K mg a) : Binds K a.d_are_told ["names"] [] := T.fn_are_told.binds (ps := ["names"]) fun _ _ _ _ _ _ us hl => match us, hl with | [_], _ => rfl
theorem bd_is_mode {w : World} {K : PySem.W.Frag} {mg : Str → Option Value} {a : Ads} (T : Txt w K mg a) : Binds K a.d_is_mode ["value"] [] := T.fn_is_mode.binds (ps := ["value"]) fun _ _ _ _ _ _ us hl => match us, hl with | [_], _ => rfl
theorem bd_ascending {w : World} {K : PySem.W.Frag} {mg : Str → Option Value} {a : Ads} (T : Txt w K mg a) : Binds K a.d_ascending ["names"] [] := T.fn_ascending.binds (ps := ["names"]) fun _ _ _ _ _ _ us hl => match us, hl with | [_], _ => rfl
theorem bd__law_pen {w : World} {K : PySem.W.Frag} {mg : Str → Option Value} {a : Ads} (T : Txt w K mg a) : Binds K a.d__law_pen ["_law_script"] [] := T.fn__law_pen.binds (ps := ["_law_script"]) fun _ _ _ _ _ _ us hl => match us, hl with | [_], _ => rfl
theorem bd__law_draw {w : World} {K : PySem.W.Frag} {mg : Str → Option Value} {a : Ads} (T : Txt w K mg a) : Binds K a.d__law_draw ["_law_pen_here", "_law_many"] [] := T.fn__law_draw.binds (ps := ["_law_pen_here", "_law_many"]) fun _ _ _ _ _ _ us hl => match us, hl with | [_, _], _ => rfl
theorem bd__law_pick {w : World} {K : PySem.W.Frag} {mg : Str → Option Value} {a : Ads} (T : Txt w K mg a) : Binds K a.d__law_pick ["_law_pen_here", "_law_some"] [] := T.fn__law_pick.binds (ps := ["_law_pen_here", "_law_some"]) fun _ _ _ _ _ _ us hl => match us, hl with | [_, _], _ => rfl
theorem bd__law_names {w : World} {K : PySem.W.Frag} {mg : Str → Option Value} {a : Ads} (T : Txt w K mg a) : Binds K a.d__law_names ["_law_pen_here", "_law_many"] [] := T.fn__law_names.binds (ps := ["_law_pen_here", "_law_many"]) fun _ _ _ _ _ _ us hl => match us, hl with | [_, _], _ => rfl
theorem bd__law_line {w : World} {K : PySem.W.Frag} {mg : Str → Option Value} {a : Ads} (T : Txt w K mg a) : Binds K a.d__law_line ["_law_pen_here", "_law_names_here"] [] := T.fn__law_line.binds (ps := ["_law_pen_here", "_law_names_here"]) fun _ _ _ _ _ _ us hl => match us, hl with | [_, _], _ => rfl
theorem bd__law_shown {w : World} {K : PySem.W.Frag} {mg : Str → Option Value} {a : Ads} (T : Txt w K mg a) : Binds K a.d__law_shown ["_law_line_here"] [] := T.fn__law_shown.binds (ps := ["_law_line_here"]) fun _ _ _ _ _ _ us hl => match us, hl with | [_], _ => rfl
theorem bd__law_even {w : World} {K : PySem.W.Frag} {mg : Str → Option Value} {a : Ads} (T : Txt w K mg a) : Binds K a.d__law_even ["_law_told"] [] := T.fn__law_even.binds (ps := ["_law_told"]) fun _ _ _ _ _ _ us hl => match us, hl with | [_], _ => rfl
theorem bd__law_is_name {w : World} {K : PySem.W.Frag} {mg : Str → Option Value} {a : Ads} (T : Txt w K mg a) : Binds K a.d__law_is_name ["_law_thing"] [] := T.fn__law_is_name.binds (ps := ["_law_thing"]) fun _ _ _ _ _ _ us hl => match us, hl with | [_], _ => rfl
theorem bd__law_is_told {w : World} {K : PySem.W.Frag} {mg : Str → Option Value} {a : Ads} (T : Txt w K mg a) : Binds K a.d__law_is_told ["_law_thing"] [] := T.fn__law_is_told.binds (ps := ["_law_thing"]) fun _ _ _ _ _ _ us hl => match us, hl with | [_], _ => rfl
theorem bd__law_number {w : World} {K : PySem.W.Frag} {mg : Str → Option Value} {a : Ads} (T : Txt w K mg a) : Binds K a.d__law_number ["_law_thing"] [] := T.fn__law_number.binds (ps := ["_law_thing"]) fun _ _ _ _ _ _ us hl => match us, hl with | [_], _ => rfl
theorem bd__law_due {w : World} {K : PySem.W.Frag} {mg : Str → Option Value} {a : Ads} (T : Txt w K mg a) : Binds K a.d__law_due ["_law_form_so", "_law_owners_so", "_law_groups_so", "_law_must_so", "_law_never_so"] [] := T.fn__law_due.binds (ps := ["_law_form_so", "_law_owners_so", "_law_groups_so", "_law_must_so", "_law_never_so"]) fun _ _ _ _ _ _ us hl => match us, hl with | [_, _, _, _, _], _ => rfl
theorem bd__law_heard {w : World} {K : PySem.W.Frag} {mg : Str → Option Value} {a : Ads} (T : Txt w K mg a) : Binds K a.d__law_heard ["_law_ask"] [] := T.fn__law_heard.binds (ps := ["_law_ask"]) fun _ _ _ _ _ _ us hl => match us, hl with | [_], _ => rfl
theorem bd__law_odd_right {w : World} {K : PySem.W.Frag} {mg : Str → Option Value} {a : Ads} (T : Txt w K mg a) : Binds K a.d__law_odd_right ["_law_pen_here", "_law_told", "_law_names_here"] [] := T.fn__law_odd_right.binds (ps := ["_law_pen_here", "_law_told", "_law_names_here"]) fun _ _ _ _ _ _ us hl => match us, hl with | [_, _, _], _ => rfl
theorem bd_ModeD_initD {w : World} {K : PySem.W.Frag} {mg : Str → Option Value} {a : Ads} (T : Txt w K mg a) : Binds K a.d_ModeD_initD ["self", "number"] [] := T.fn_ModeD_initD.binds (ps := ["self", "number"]) fun _ _ _ _ _ _ us hl => match us, hl with | [_, _], _ => rfl
theorem bd_Mode_number {w : World} {K : PySem.W.Frag} {mg : Str → Option Value} {a : Ads} (T : Txt w K mg a) : Binds K a.d_Mode_number ["self"] [] := T.fn_Mode_number.binds (ps := ["self"]) fun _ _ _ _ _ _ us hl => match us, hl with | [_], _ => rfl
theorem bd_ModeD_eqD {w : World} {K : PySem.W.Frag} {mg : Str → Option Value} {a : Ads} (T : Txt w K mg a) : Binds K a.d_ModeD_eqD ["self", "other"] [] := T.fn_ModeD_eqD.binds (ps := ["self", "other"]) fun _ _ _ _ _ _ us hl => match us, hl with | [_, _], _ => rfl
theorem bd_Line_form {w : World} {K : PySem.W.Frag} {mg : Str → Option Value} {a : Ads} (T : Txt w K mg a) : Binds K a.d_Line_form ["self"] [] := T.fn_Line_form.binds (ps := ["self"]) fun _ _ _ _ _ _ us hl => match us, hl with | [_], _ => rfl
theorem bd_Line_owners {w : World} {K : PySem.W.Frag} {mg : Str → Option Value} {a : Ads} (T : Txt w K mg a) : Binds K a.d_Line_owners ["self"] [] := T.fn_Line_owners.binds (ps := ["self"]) fun _ _ _ _ _ _ us hl => match us, hl with | [_], _ => rfl
theorem bd_Line_groups {w : World} {K : PySem.W.Frag} {mg : Str → Option Value} {a : Ads} (T : Txt w K mg a) : Binds K a.d_Line_groups ["self"] [] := T.fn_Line_groups.binds (ps := ["self"]) fun _ _ _ _ _ _ us hl => match us, hl with | [_], _ => rfl
theorem bd_Line_must {w : World} {K : PySem.W.Frag} {mg : Str → Option Value} {a : Ads} (T : Txt w K mg a) : Binds K a.d_Line_must ["self"] [] := T.fn_Line_must.binds (ps := ["self"]) fun _ _ _ _ _ _ us hl => match us, hl with | [_], _ => rfl
theorem bd_Line_never {w : World} {K : PySem.W.Frag} {mg : Str → Option Value} {a : Ads} (T : Txt w K mg a) : Binds K a.d_Line_never ["self"] [] := T.fn_Line_never.binds (ps := ["self"]) fun _ _ _ _ _ _ us hl => match us, hl with | [_], _ => rfl
theorem bd_LineD_eqD {w : World} {K : PySem.W.Frag} {mg : Str → Option Value} {a : Ads} (T : Txt w K mg a) : Binds K a.d_LineD_eqD ["self", "other"] [] := T.fn_LineD_eqD.binds (ps := ["self", "other"]) fun _ _ _ _ _ _ us hl => match us, hl with | [_, _], _ => rfl
theorem bd_BadKindD_initD {w : World} {K : PySem.W.Frag} {mg : Str → Option Value} {a : Ads} (T : Txt w K mg a) : Binds K a.d_BadKindD_initD ["self", "at"] [] := T.fn_BadKindD_initD.binds (ps := ["self", "at"]) fun _ _ _ _ _ _ us hl => match us, hl with | [_, _], _ => rfl
/-- a line, five things told -/
theorem bd_Line5 {w : World} {K : PySem.W.Frag} {mg : Str → Option Value} {a : Ads} (T : Txt w K mg a) : ∃ ds, Vals [] ds ∧ Binds K a.d_LineD_initD ["self", "form", "owners", "groups", "must", "never"] ds :=
  T.fn_LineD_initD.binds1 (ps := ["self", "form", "owners", "groups", "must", "never"]) 6 4 (by decide) rfl fun _ _ _ _ _ _ _ us its hu hi => match us, its, hu, hi with | [_, _, _, _, _, _], [_, _, _, _], _, _ => ⟨_, rfl, rfl⟩
theorem bd_Line1 {w : World} {K : PySem.W.Frag} {mg : Str → Option Value} {a : Ads} (T : Txt w K mg a) : ∃ ds, Vals [.non, .non, .int 0, .int 0] ds ∧ Binds K a.d_LineD_initD ["self", "form", "owners", "groups", "must", "never"] ds :=
  T.fn_LineD_initD.binds1 (ps := ["self", "form", "owners", "groups", "must", "never"]) 2 0 (by decide) rfl fun _ _ _ _ _ _ _ us its hu hi => match us, its, hu, hi with | [_, _], [_, _, _, _], _, _ => ⟨_, rfl, rfl⟩
theorem bd_Line4 {w : World} {K : PySem.W.Frag} {mg : Str → Option Value} {a : Ads} (T : Txt w K mg a) : ∃ ds, Vals [.int 0] ds ∧ Binds K a.d_LineD_initD ["self", "form", "owners", "groups", "must", "never"] ds :=
  T.fn_LineD_initD.binds1 (ps := ["self", "form", "owners", "groups", "must", "never"]) 5 3 (by decide) rfl fun _ _ _ _ _ _ _ us its hu hi => match us, its, hu, hi with | [_, _, _, _, _], [_, _, _, _], _, _ => ⟨_, rfl, rfl⟩
end KP
set_option Elab.async false
set_option linter.all false
set_option maxRecDepth 100000
set_option maxHeartbeats 4000000
namespace KP
open PySem PySem.Spec PyProof.Rows L2 Evl KF
local macro_rules | `(tactic| walk_at "ev") => `(tactic| repeat' (first | exact ev_c | exact ev_var rfl | exact rv_I0 | refine' rv_I ?_ | refine' rv_eq ?_ | refine' rv_ne ?_ | refine' ev_op ?_ ?_ ?_ | exact ea_nil | refine' ea_cons ?_ ?_ | refine' et_test ?_ | refine' et_B ?_ | refine' et_not ?_ | refine' ev_notV ?_))

open PySem
/-! ### values by their shape -/
inductive Sh where
  | non
  | bl (b : Bool)
  | int (i : Int)
  | str (s : Str)
  | lst (ws : List Sh)
  | tup (ws : List Sh)
  | dct
  | mode (n : Nat)
/-- a Mode of number n stands at p -/
def ModeAt (a : Ads) (H : Hp) (p : Addr) (n : Nat) : Prop := ∃ dx, H p = some (.ins a.f_Mode dx [(("_number" : Str), .int n)])
theorem ModeAt.mono {a : Ads} {H H' : Hp} {p : Addr} {n : Nat} (m : ModeAt a H p n) (e : Ex H H') : ModeAt a H' p n := by
  obtain ⟨dx, h⟩ := m
  exact ⟨dx, e _ _ h⟩
mutual
/-- v looks like w in H, and is not the object at p -/
inductive Vw (a : Ads) (p : Addr) (H : Hp) : V → Sh → Prop
  | non : Vw a p H .non .non
  | bl (b : Bool) : Vw a p H (.bl b) (.bl b)
  | int (i : Int) : Vw a p H (.int i) (.int i)
  | str (s : Str) (h : s.cps.size ≤ 1000) : Vw a p H (.str s) (.str s)
  | lst {l : Addr} {xs : List V} {ws : List Sh} (ne : l ≠ p) (at_ : H l = some (.lst xs)) (few : ws.length ≤ 16) (all : VwA a p H xs ws) : Vw a p H (.ref l) (.lst ws)
  | tup {l : Addr} {xs : List V} {ws : List Sh} (ne : l ≠ p) (at_ : H l = some (.tup xs)) (few : ws.length ≤ 16) (all : VwA a p H xs ws) : Vw a p H (.ref l) (.tup ws)
  | dct {l : Addr} (ne : l ≠ p) (at_ : H l = some (.dK [])) : Vw a p H (.ref l) .dct
  | mode {l : Addr} {n : Nat} (ne : l ≠ p) (hn : n < 512) (at_ : ModeAt a H l n) : Vw a p H (.ref l) (.mode n)
inductive VwA (a : Ads) (p : Addr) (H : Hp) : List V → List Sh → Prop
  | nil : VwA a p H [] []
  | cons {v : V} {vs : List V} {w : Sh} {ws : List Sh} (one : Vw a p H v w) (rest : VwA a p H vs ws) : VwA a p H (v :: vs) (w :: ws)
end
/-- all stays but what stands at p, and the tables -/
def StP (p : Addr) (H H' : Hp) : Prop := ∀ b o, H b = some o → b ≠ p → (∀ ps, o ≠ .tbl ps) → H' b = some o
theorem StP.of {p : Addr} {H H' : Hp} (e : Ex H H') : StP p H H' := fun b o h _ _ => e b o h
theorem StP.ofB {p : Addr} {H H' : Hp} (e : ExB p H H') : StP p H H' := fun b o h n _ => e b o h n
theorem StP.ofN {p : Addr} {H H' : Hp} (e : LamX.ExtN H H') : StP p H H' := fun b o h _ t => e b o h t
theorem StP.trans {p : Addr} {H H1 H2 : Hp} (a : StP p H H1) (b : StP p H1 H2) : StP p H H2 := fun c o h n t => b c o (a c o h n t) n t
mutual
theorem Vw.st {a : Ads} {p : Addr} {H H' : Hp} (e : StP p H H') : ∀ (w : Sh) (v : V), Vw a p H v w → Vw a p H' v w
  | .non, _, h => by
    cases h
    exact .non
  | .bl b, _, h => by
    cases h
    exact .bl b
  | .int i, _, h => by
    cases h
    exact .int i
  | .str s, _, h => by
    cases h with
    | str _ h => exact .str s h
  | .lst ws, _, h => by
    cases h with
    | lst ne at_ few all => exact .lst ne (e _ _ at_ ne (fun _ z => nomatch z)) few (VwA.st e ws _ all)
  | .tup ws, _, h => by
    cases h with
    | tup ne at_ few all => exact .tup ne (e _ _ at_ ne (fun _ z => nomatch z)) few (VwA.st e ws _ all)
  | .dct, _, h => by
    cases h with
    | dct ne at_ => exact .dct ne (e _ _ at_ ne (fun _ z => nomatch z))
  | .mode n, _, h => by
    cases h with
    | mode ne hn at_ =>
      obtain ⟨dx, at_⟩ := at_
      exact .mode ne hn ⟨dx, e _ _ at_ ne (fun _ z => nomatch z)⟩
theorem VwA.st {a : Ads} {p : Addr} {H H' : Hp} (e : StP p H H') : ∀ (ws : List Sh) (vs : List V), VwA a p H vs ws → VwA a p H' vs ws
  | [], _, h => by
    cases h
    exact .nil
  | w :: ws, _, h => by
    cases h with
    | cons h1 h2 => exact .cons (Vw.st e w _ h1) (VwA.st e ws _ h2)
end
theorem Vw.mono {a : Ads} {p : Addr} {H H' : Hp} {v : V} {w : Sh} (h : Vw a p H v w) (e : Ex H H') : Vw a p H' v w := Vw.st (StP.of e) w v h
theorem VwA.mono {a : Ads} {p : Addr} {H H' : Hp} {vs : List V} {ws : List Sh} (h : VwA a p H vs ws) (e : Ex H H') : VwA a p H' vs ws := VwA.st (StP.of e) ws vs h
theorem VwA.len {a : Ads} {p : Addr} {H : Hp} : ∀ {vs : List V} {ws : List Sh}, VwA a p H vs ws → vs.length = ws.length
  | _, _, .nil => rfl
  | _, _, .cons _ t => congrArg (· + 1) t.len
theorem VwA.at_ {a : Ads} {p : Addr} {H : Hp} : ∀ {vs : List V} {ws : List Sh}, VwA a p H vs ws → ∀ {i : Nat} {w : Sh}, ws[i]? = some w → ∃ v, vs[i]? = some v ∧ Vw a p H v w
  | _, _, .nil, i, w, h => by cases h
  | _, _, .cons one rest, 0, w, h => by
    cases h
    exact ⟨_, rfl, one⟩
  | _, _, .cons one rest, i + 1, w, h => rest.at_ h
theorem VwA.at2 {a : Ads} {p : Addr} {H : Hp} : ∀ {vs : List V} {ws : List Sh}, VwA a p H vs ws → ∀ {i : Nat} {v : V}, vs[i]? = some v → ∃ w, ws[i]? = some w ∧ Vw a p H v w
  | _, _, .nil, i, w, h => by cases h
  | _, _, .cons one rest, 0, w, h => by
    cases h
    exact ⟨_, rfl, one⟩
  | _, _, .cons one rest, i + 1, w, h => rest.at2 h
/-! what the program asks of them -/
def lettersS : Str := "abcdefghijklmnopqrstuvwxyz"
def nmS (s : Str) : Bool := (decide (1 ≤ s.cps.size) && decide (s.cps.size ≤ 8)) && s.cps.toList.all fun c => decide (c ∈ lettersS.cps.toList)
def nmW : Sh → Bool
  | .str s => nmS s
  | _ => false
def strOf : Sh → Option Str
  | .str s => some s
  | _ => none
def unW (ws : List Sh) : Bool := decide ((ws.filterMap strOf).Nodup)
def seqOk (ws : List Sh) : Bool := (decide (1 ≤ ws.length) && decide (ws.length ≤ 2)) && (ws.all nmW && unW ws)
def toldW : Sh → Bool
  | .non => true
  | .lst ws => seqOk ws
  | .tup ws => seqOk ws
  | _ => false
def numW : Sh → Option Nat
  | .mode n => some n
  | .int i => if 0 ≤ i ∧ i ≤ 511 then some i.toNat else none
  | _ => none
def formW : Sh → Bool
  | .str s => decide (s = "file" ∨ s = "folder")
  | _ => false
def dueW (f o g m n : Sh) : Option Nat :=
  if formW f = false then some 0 else if toldW o = false then some 1 else if toldW g = false then some 2 else
    match numW m with
    | none => some 3
    | some x => match numW n with
      | none => some 4
      | some y => if Builtin.bitAnd (x : Int) (y : Int) = 0 then none else some 4
def isW : Sh → String → Bool
  | .non, _ => false
  | .bl _, t => t == "int" || t == "bool"
  | .int _, t => t == "int"
  | .str _, t => t == "str"
  | .lst _, t => t == "list"
  | .tup _, t => t == "tuple"
  | .dct, _ => false
  | .mode _, _ => false
def isM : Sh → Bool
  | .mode _ => true
  | _ => false
def tyW : Sh → String
  | .non => "NoneType"
  | .bl _ => "bool"
  | .int _ => "int"
  | .str _ => "str"
  | .lst _ => "list"
  | .tup _ => "tuple"
  | .dct => "dict"
  | .mode _ => ""
def fiveT : List String := ["int", "bool", "str", "list", "tuple"]
theorem kit_all : ∀ t ∈ fiveT, kitB "NoneType" t = some false ∧ kitB "bool" t = some (t == "int" || t == "bool") ∧ kitB "int" t = some (t == "int") ∧ kitB "str" t = some (t == "str") ∧ kitB "list" t = some (t == "list") ∧ kitB "tuple" t = some (t == "tuple") ∧ kitB "dict" t = some false := by
  decide +kernel
section
variable {w : World} {K : PySem.W.Frag} {mg : Str → Option Value} {a : Ads} {p : Addr} {H : Hp} {v : V} {σ : L2.St} {te : TE}
theorem Vw.ty (T : Txt w K mg a) {s : Sh} (h : Vw a p H v s) : (isM s = false ∧ TyX K H v (.type (tyW s))) ∨ (isM s = true ∧ TyX K H v (.ref a.f_Mode)) := by
  cases h with
  | non => exact .inl ⟨rfl, .base .non⟩
  | bl b => exact .inl ⟨rfl, .base (.bl b)⟩
  | int i => exact .inl ⟨rfl, .base (.int i)⟩
  | str s _ => exact .inl ⟨rfl, .base (.str s)⟩
  | lst _ h _ _ => exact .inl ⟨rfl, .base (.lst h)⟩
  | tup _ h _ _ => exact .inl ⟨rfl, .base (.tup h)⟩
  | dct _ h => exact .inl ⟨rfl, .base (.dK h)⟩
  | mode _ _ h =>
    obtain ⟨dx, h⟩ := h
    exact .inr ⟨rfl, .base (.ins h T.c_Mode T.ia_Mode T.in_ T.it_ T.im_Mode)⟩
theorem mi_all (T : Txt w K mg a) : ∀ t ∈ fiveT, PySem.W.kitOne K (.ref a.f_Mode) (.type t) = some false := fun t ht => by
  simp only [fiveT, List.mem_cons, List.not_mem_nil, or_false] at ht
  rcases ht with rfl | rfl | rfl | rfl | rfl
  · exact T.mi_Mode_int
  · exact T.mi_Mode_bool
  · exact T.mi_Mode_str
  · exact T.mi_Mode_list
  · exact T.mi_Mode_tuple
theorem kit_isW {s : Sh} (hm : isM s = false) {t : String} (ht : t ∈ fiveT) : kitB (tyW s) t = some (isW s t) := by
  obtain ⟨h1, h2, h3, h4, h5, h6, h7⟩ := kit_all t ht
  cases s with
  | non => exact h1
  | bl b => exact h2
  | int i => exact h3
  | str s => exact h4
  | lst ws => exact h5
  | tup ws => exact h6
  | dct => exact h7
  | mode n => cases hm
theorem isW_m {s : Sh} (hm : isM s = true) (t : String) : isW s t = false := by
  cases s with
  | mode n => rfl
  | _ => cases hm
/-- isinstance(x, T) -/
theorem ev_isW (T : Txt w K mg a) {s : Sh} {t : String} (hv : Ev te σ H v) (h : Vw a p H v s) (ht : t ∈ fiveT) : Ev (tCB (rIsi K) (tCons te (tCons (tC (.ty t)) tNil))) σ H (.bl (isW s t)) := by
  rcases h.ty T with ⟨hm, _⟩ | ⟨hm, _⟩
  · refine ev_isi (t := .type (tyW s)) (ea_cons hv (ea_cons ev_c ea_nil)) (.ty _) (fun H' e => ?_) (kit_ty (kit_isW hm ht))
    rcases (h.mono e).ty T with ⟨_, ty⟩ | ⟨hm2, _⟩
    · exact ty
    · rw [hm] at hm2; cases hm2
  · rw [isW_m hm]
    refine ev_isi (t := .ref a.f_Mode) (ea_cons hv (ea_cons ev_c ea_nil)) (.ty _) (fun H' e => ?_) (mi_all T t ht)
    rcases (h.mono e).ty T with ⟨hm2, _⟩ | ⟨_, ty⟩
    · rw [hm] at hm2; cases hm2
    · exact ty
theorem nt_all (T : Txt w K mg a) {s : Sh} (hm : isM s = false) : PySem.W.kitOne K (.type (tyW s)) (.ref a.f_Mode) = some false := by
  cases s with
  | non => exact T.nt_Mode_NoneType
  | bl b => exact T.nt_Mode_bool
  | int i => exact T.nt_Mode_int
  | str s => exact T.nt_Mode_str
  | lst ws => exact T.nt_Mode_list
  | tup ws => exact T.nt_Mode_tuple
  | dct => exact T.nt_Mode_dict
  | mode n => cases hm
/-- isinstance(x, Mode) -/
theorem ev_isMode (T : Txt w K mg a) {s : Sh} (hv : Ev te σ H v) (h : Vw a p H v s) : Ev (tCB (rIsi K) (tCons te (tCons (tC (.ref a.f_Mode)) tNil))) σ H (.bl (isM s)) := by
  rcases h.ty T with ⟨hm, _⟩ | ⟨hm, _⟩
  · rw [hm]
    refine ev_isi (t := .type (tyW s)) (ea_cons hv (ea_cons ev_c ea_nil)) (.own _) (fun H' e => ?_) (nt_all T hm)
    rcases (h.mono e).ty T with ⟨_, ty⟩ | ⟨hm2, _⟩
    · exact ty
    · rw [hm] at hm2; cases hm2
  · rw [hm]
    refine ev_isi (t := .ref a.f_Mode) (ea_cons hv (ea_cons ev_c ea_nil)) (.own _) (fun H' e => ?_) T.is_Mode
    rcases (h.mono e).ty T with ⟨hm2, _⟩ | ⟨_, ty⟩
    · rw [hm] at hm2; cases hm2
    · exact ty
end
end KP
set_option Elab.async false
set_option linter.all false
set_option maxRecDepth 100000
set_option maxHeartbeats 4000000
namespace KP
open PySem PySem.Spec PyProof.Rows L2 Evl KF
local macro_rules | `(tactic| walk_at "ev") => `(tactic| repeat' (first | exact ev_c | exact ev_var rfl | exact rv_I0 | refine' rv_I ?_ | refine' rv_eq ?_ | refine' rv_ne ?_ | refine' ev_op ?_ ?_ ?_ | exact ea_nil | refine' ea_cons ?_ ?_ | refine' et_test ?_ | refine' et_B ?_ | refine' et_not ?_ | refine' ev_notV ?_))

open PySem
/-! ### whole numbers, modes -/
def wholeTo (w : Sh) (m : Int) : Bool := match w with
  | .int i => decide (0 ≤ i) && decide (i ≤ m)
  | _ => false
def spWhole (a : Ads) : Sp := fun vs H Q _ => ∃ (p : Addr) (v : V) (s : Sh), vs = [v] ∧ Vw a p H v s ∧ ∀ H', Ex H H' → Q (.bl (isW s "int" && !isW s "bool")) H'
def spWholeTo (a : Ads) : Sp := fun vs H Q _ => ∃ (p : Addr) (v : V) (s : Sh) (m : Int), vs = [v, .int m] ∧ Vw a p H v s ∧ ∀ H', Ex H H' → Q (.bl (wholeTo s m)) H'
def spIsMode (a : Ads) : Sp := fun vs H Q _ => ∃ (p : Addr) (v : V) (s : Sh), vs = [v] ∧ Vw a p H v s ∧ ∀ H', Ex H H' → Q (.bl (numW s).isSome) H'
def spNum (a : Ads) : Sp := fun vs H Q _ => ∃ (p : Addr) (v : V) (s : Sh) (n : Nat), vs = [v] ∧ Vw a p H v s ∧ numW s = some n ∧ ∀ H', Ex H H' → Q (.int n) H'
def spMode (a : Ads) : Sp := fun vs H Q _ => ∃ (p dx : Addr) (n : Nat), vs = [.ref p, .int n] ∧ n < 512 ∧ H p = some (.ins a.f_Mode dx []) ∧ ∀ H', (∀ b o, H b = some o → b ≠ p → H' b = some o) → H' p = some (.ins a.f_Mode dx [(("_number" : Str), .int n)]) → Q .non H'
def spMEq (a : Ads) : Sp := fun vs H Q _ => ∃ (p q : Addr) (m n : Nat), vs = [.ref p, .ref q] ∧ ModeAt a H p m ∧ ModeAt a H q n ∧ ∀ H', Ex H H' → Q (.bl (decide (m = n))) H'
theorem whole_int {s : Sh} (h : (isW s "int" && !isW s "bool") = true) : ∃ i, s = .int i := by
  cases s with
  | int i => exact ⟨i, rfl⟩
  | bl b => exact nomatch (show false = true from h)
  | lst _ => exact nomatch (show false = true from h)
  | tup _ => exact nomatch (show false = true from h)
  | str _ => exact nomatch (show false = true from h)
  | non => cases h
  | dct => cases h
  | mode _ => cases h
theorem wholeTo_no {s : Sh} (h : (isW s "int" && !isW s "bool") = false) (m : Int) : wholeTo s m = false := by
  cases s with
  | int i => exact nomatch (show true = false from h)
  | _ => rfl
theorem num_some {s : Sh} : (numW s).isSome = (isM s || wholeTo s 511) := by
  cases s with
  | int i =>
    show (if 0 ≤ i ∧ i ≤ 511 then some i.toNat else none : Option Nat).isSome = _
    by_cases h : 0 ≤ i ∧ i ≤ 511
    · rw [if_pos h]
      show true = (false || (decide (0 ≤ i) && decide (i ≤ 511)))
      rw [decide_eq_true h.1, decide_eq_true h.2]
      rfl
    · rw [if_neg h]
      show false = (false || (decide (0 ≤ i) && decide (i ≤ 511)))
      by_cases h0 : 0 ≤ i
      · rw [decide_eq_false (fun z => h ⟨h0, z⟩), Bool.and_false, Bool.or_false]
      · rw [decide_eq_false h0, Bool.false_and, Bool.or_false]
  | _ => rfl
theorem num_lt {a : Ads} {p : Addr} {H : Hp} {v : V} {s : Sh} {n : Nat} (h : Vw a p H v s) (e : numW s = some n) : n < 512 := by
  cases h with
  | mode _ hn _ => cases e; exact hn
  | int i =>
    have e : (if 0 ≤ i ∧ i ≤ 511 then some i.toNat else none : Option Nat) = some n := e
    by_cases h : 0 ≤ i ∧ i ≤ 511
    · rw [if_pos h] at e
      cases e
      omega
    · rw [if_neg h] at e
      cases e
  | _ => cases e
section
variable {P : Program} {w : World} {K : PySem.W.Frag} {mg : Str → Option Value} {base : Heap} {a : Ads}
theorem ok_is_whole (T : Txt w K mg a) : FnOk P w K mg base CX0 1 a.f_is_whole a.d_is_whole ["value"] (spWhole a) := by
  refine T.fn_is_whole.ok sc_is_whole (fun vs H Q E h => ?_) (fun cdv A outer s H vs Q E hr h => ?_)
  · obtain ⟨_, _, _, rfl, _⟩ := h
    rfl
  · obtain ⟨p, v, s, rfl, hv, k⟩ := h
    refine ⟨_, (pss_one (ps_ret (pe_and (pe_callB call_isi (by rfl) T.b_isinstance PyProof.Rows.boot_isinstance (pa_cons (pv 0) (pa_cons (pe_bltn (v := .ty "int") (by rfl) T.b_int (by decide +kernel) rfl) pa_nil))) (pe_one (pe_not (pe_callB call_isi (by rfl) T.b_isinstance PyProof.Rows.boot_isinstance (pa_cons (pv 0) (pa_cons (pe_bltn (v := .ty "bool") (by rfl) T.b_bool (by decide +kernel) rfl) pa_nil)))))))), ?_⟩
    exact s_ret (v := .bl (isW s "int" && !isW s "bool")) (ev_andV (ev_isW T (ev_var rfl) hv (by decide)) fun _ => ev_notV (ev_isW T (ev_var rfl) hv (by decide))) k
theorem ok_is_whole_to (T : Txt w K mg a) : FnOk P w K mg base CX0 2 a.f_is_whole_to a.d_is_whole_to ["value", "most"] (spWholeTo a) := by
  have G_is_whole : FnOk P w K mg base CX0 1 _ _ _ _ := ok_is_whole T
  refine T.fn_is_whole_to.ok sc_is_whole_to (fun vs H Q E h => ?_) (fun cdv A outer s H vs Q E hr h => ?_)
  · obtain ⟨_, _, _, _, rfl, _⟩ := h
    rfl
  · obtain ⟨p, v, s, m, rfl, hv, k⟩ := h
    have hrc : Room 1 _ := hr
    refine ⟨_, (pss_one (ps_ret (pe_and (pe_call G_is_whole hrc rfl T.mg_is_whole T.fn_is_whole.kp (bd_is_whole T) .nil pass0 (pa_cons (pv 0) pa_nil)) (pe_one (pe_chain op_le op_le pe_int (pv 0) (pv 1)))))), ?_⟩
    refine s_ret (v := .bl (wholeTo s m)) (ev_is (ev_andV (a := isW s "int" && !isW s "bool") (b := wholeTo s m) (ev_call (vs := [v]) (ea_cons (ev_var rfl) ea_nil) fun H1 e Q q E => ⟨p, v, s, rfl, hv.mono e, q⟩) fun yes => ?_) ?_) k
    · obtain ⟨i, rfl⟩ := whole_int yes
      cases hv
      exact ev_chain (by walk_at "ev") (by walk_at "ev") (by walk_at "ev") fun _ => ⟨by walk_at "ev", by walk_at "ev"⟩
    · cases h : (isW s "int" && !isW s "bool") with
      | true => rfl
      | false => rw [wholeTo_no h]; rfl
theorem ok_Mode_init (T : Txt w K mg a) : FnOk P w K mg base CX0 5 a.f_ModeD_initD a.d_ModeD_initD ["self", "number"] (spMode a) := by
  have G_is_whole_to : FnOk P w K mg base CX0 3 _ _ _ _ := (ok_is_whole_to T).mono (by decide)
  refine T.fn_ModeD_initD.ok sc_ModeD_initD (fun vs H Q E h => ?_) (fun cdv A outer s H vs Q E hr h => ?_)
  · obtain ⟨_, _, _, rfl, _⟩ := h
    rfl
  · obtain ⟨p, dx, n, rfl, hn, hp, k⟩ := h
    have hrc : Room 3 _ := hr.mono (by decide)
    obtain ⟨tm, hm⟩ := T.k_Mode_MOST
    refine ⟨_, (pss_cons (ps_if (pt_not (pt_val (pe_call G_is_whole_to hrc rfl T.mg_is_whole_to T.fn_is_whole_to.kp (bd_is_whole_to T) .nil pass0 (pa_cons (pv 1) (pa_cons (ClX.pe_cval (pe_glob (v := .ref a.f_Mode) rfl T.mg_Mode rfl)) pa_nil))))) (pss_one ps_never) pss_nil)
    (pss_one (ps_fld (pv 0) (pv 1) rfl))), ?_⟩
    refine q_when (b := false) (et_is (et_not (a := true) (et_B (ev_is (v := V.bl (wholeTo (.int n) 511)) (ev_call (vs := [.int n, .int 511]) (ea_cons (ev_var rfl) (ea_cons (ev_cval ev_c T.r_Mode hm) ea_nil)) fun H1 e Q q E => ⟨0, .int n, .int n, 511, rfl, .int _, q⟩) ?_))) rfl) (fun z => nomatch z) fun _ H1 e1 => ?_
    · show V.bl (decide ((0 : Int) ≤ n) && decide ((n : Int) ≤ 511)) = V.bl true
      rw [decide_eq_true (by omega), decide_eq_true (by omega)]
      rfl
    refine ⟨_, rfl, _, rfl, p, a.f_Mode, dx, [], rfl, e1 _ _ hp, T.c_Mode, T.n_number_Mode, (by show 0 < 1000; decide), ?_⟩
    exact k _ (fun b o hb ne => by rw [upd_ne ne]; exact e1 _ _ hb) upd_same
theorem ok_Mode_number (T : Txt w K mg a) : FnOk P w K mg base CX0 1 a.f_Mode_number a.d_Mode_number ["self"] (getSp a.f_Mode "_number") := by
  obtain ⟨oc, od, kV, doc, pm, an, cdv, ct, osl, e, lk, hcd⟩ := T.fn_Mode_number.ex
  rw [e]
  exact fn_getter (by rw [← e]; exact lk) hcd sc_Mode_number rfl rfl T.c_Mode T.n_number_Mode
theorem tyx_mode (T : Txt w K mg a) {H : Hp} {p : Addr} {n : Nat} (m : ModeAt a H p n) : TyX K H (.ref p) (.ref a.f_Mode) := by
  obtain ⟨dx, h⟩ := m
  exact .base (.ins h T.c_Mode T.ia_Mode T.in_ T.it_ T.im_Mode)
theorem ok_Mode_eq (T : Txt w K mg a) : FnOk P w K mg base CX0 1 a.f_ModeD_eqD a.d_ModeD_eqD ["self", "other"] (spMEq a) := by
  refine T.fn_ModeD_eqD.ok sc_ModeD_eqD (fun vs H Q E h => ?_) (fun cdv A outer s H vs Q E hr h => ?_)
  · obtain ⟨_, _, _, _, rfl, _⟩ := h
    rfl
  · obtain ⟨p, q, m, n, rfl, mp, mq, k⟩ := h
    refine ⟨_, (pss_one (ps_ret (pe_and (pe_callB call_isi (by rfl) T.b_isinstance PyProof.Rows.boot_isinstance (pa_cons (pv 1) (pa_cons (pe_glob (v := .ref a.f_Mode) rfl T.mg_Mode rfl) pa_nil))) (pe_one (pe_cmpR op_eq (pe_fld (pv 0) rfl) (pe_fld (pv 1) rfl) (nomark _)))))), ?_⟩
    obtain ⟨dx, hp⟩ := id mp
    obtain ⟨dy, hq⟩ := id mq
    refine s_ret (v := .bl (decide (m = n))) (ev_is (ev_andV (a := true) (b := decide (V.int m = V.int n)) (ev_isi (ea_cons (ev_var rfl) (ea_cons ev_c ea_nil)) (.own _) (fun H' e' => tyx_mode T (mq.mono e')) T.is_Mode) fun _ => ev_op (ev_fld (ev_var rfl) hp T.c_Mode T.n_number_Mode (by simp [List.lookup])) (ev_fld (ev_var rfl) hq T.c_Mode T.n_number_Mode (by simp [List.lookup])) (rv_eq rfl)) ?_) k
    rw [Bool.true_and]
    refine congrArg V.bl (decide_eq_decide.mpr ⟨fun z => ?_, fun z => by rw [z]⟩)
    injection z with z
    omega
theorem ok_is_mode (T : Txt w K mg a) : FnOk P w K mg base CX0 4 a.f_is_mode a.d_is_mode ["value"] (spIsMode a) := by
  have G_is_whole_to : FnOk P w K mg base CX0 3 _ _ _ _ := (ok_is_whole_to T).mono (by decide)
  refine T.fn_is_mode.ok sc_is_mode (fun vs H Q E h => ?_) (fun cdv A outer s H vs Q E hr h => ?_)
  · obtain ⟨_, _, _, rfl, _⟩ := h
    rfl
  · obtain ⟨p, v, s, rfl, hv, k⟩ := h
    have hrc : Room 3 _ := hr
    obtain ⟨tm, hm⟩ := T.k_Mode_MOST
    refine ⟨_, (pss_one (ps_ret (pe_or (pe_callB call_isi (by rfl) T.b_isinstance PyProof.Rows.boot_isinstance (pa_cons (pv 0) (pa_cons (pe_glob (v := .ref a.f_Mode) rfl T.mg_Mode rfl) pa_nil))) (pe_one (pe_call G_is_whole_to hrc rfl T.mg_is_whole_to T.fn_is_whole_to.kp (bd_is_whole_to T) .nil pass0 (pa_cons (pv 0) (pa_cons (ClX.pe_cval (pe_glob (v := .ref a.f_Mode) rfl T.mg_Mode rfl)) pa_nil))))))), ?_⟩
    exact s_ret (v := .bl (numW s).isSome) (ev_is (ev_orV (a := isM s) (b := wholeTo s 511) (ev_isMode T (ev_var rfl) hv) fun _ => ev_call (vs := [v, .int 511]) (ea_cons (ev_var rfl) (ea_cons (ev_cval ev_c T.r_Mode hm) ea_nil)) fun H1 e Q q E => ⟨p, v, s, 511, rfl, hv.mono e, q⟩) (congrArg V.bl num_some.symm)) k
theorem ok_number_of (T : Txt w K mg a) : FnOk P w K mg base CX0 5 a.f_number_of a.d_number_of ["mode"] (spNum a) := by
  have G_is_whole_to : FnOk P w K mg base CX0 3 _ _ _ _ := (ok_is_whole_to T).mono (by decide)
  have G_Mode_number : FnOk P w K mg base CX0 3 _ _ _ _ := (ok_Mode_number T).mono (by decide)
  refine T.fn_number_of.ok sc_number_of (fun vs H Q E h => ?_) (fun cdv A outer s H vs Q E hr h => ?_)
  · obtain ⟨_, _, _, _, rfl, _⟩ := h
    rfl
  · obtain ⟨p, v, s, n, rfl, hv, en, k⟩ := h
    have hrm : Room 4 _ := hr
    have hrc : Room 3 _ := hr.mono (by decide)
    obtain ⟨tm, hm⟩ := T.k_Mode_MOST
    refine ⟨_, (pss_cons (ps_if (pt_val (pe_callB call_isi (by rfl) T.b_isinstance PyProof.Rows.boot_isinstance (pa_cons (pv 0) (pa_cons (pe_glob (v := .ref a.f_Mode) rfl T.mg_Mode rfl) pa_nil)))) (pss_one (ps_ret (pe_prop (pv 0) T.c_Mode T.p_Mode_number (G_Mode_number) hrm (bd_Mode_number T) .nil pass0 rfl))) pss_nil)
    (pss_cons (ps_if (pt_not (pt_val (pe_call G_is_whole_to hrc rfl T.mg_is_whole_to T.fn_is_whole_to.kp (bd_is_whole_to T) .nil pass0 (pa_cons (pv 0) (pa_cons (ClX.pe_cval (pe_glob (v := .ref a.f_Mode) rfl T.mg_Mode rfl)) pa_nil))))) (pss_one ps_never) pss_nil)
    (pss_one (ps_ret (pv 0))))), ?_⟩
    refine q_when (b := isM s) (et_B (ev_isMode T (ev_var rfl) hv)) (fun yes H1 e1 => ?_) fun no H1 e1 => ?_
    · cases hv with
      | mode ne hn at_ =>
        cases en
        obtain ⟨dx, hp⟩ := at_
        exact s_ret (v := .int n) (ev_prop (ev_var rfl) (e1 _ _ hp) (spv_get (e1 _ _ hp) (by simp [List.lookup]))) fun H2 e2 => k H2 (e1.trans e2)
      | _ => cases yes
    · have w511 : wholeTo s 511 = true := by
        have z := num_some (s := s)
        rw [en, no, Bool.false_or] at z
        exact z.symm
      refine q_when (b := false) (et_is (et_not (a := wholeTo s 511) (et_B (ev_call (vs := [v, .int 511]) (ea_cons (ev_var rfl) (ea_cons (ev_cval ev_c T.r_Mode hm) ea_nil)) fun H2 e Q q E => ⟨p, v, s, 511, rfl, hv.mono (e1.trans e), q⟩))) (by rw [w511]; rfl)) (fun z => nomatch z) fun _ H2 e2 => ?_
      cases hv with
      | int i =>
        have en : (if 0 ≤ i ∧ i ≤ 511 then some i.toNat else none : Option Nat) = some n := en
        have hi : i = n := by
          by_cases h : 0 ≤ i ∧ i ≤ 511
          · rw [if_pos h] at en
            cases en
            omega
          · rw [if_neg h] at en
            cases en
        subst hi
        exact s_ret (v := .int n) (ev_var rfl) fun H3 e3 => k H3 ((e1.trans e2).trans e3)
      | mode _ _ _ => cases no
      | _ => cases w511
end
end KP
set_option Elab.async false
set_option linter.all false
set_option maxRecDepth 100000
set_option maxHeartbeats 4000000
namespace KP
open PySem PySem.Spec PyProof.Rows L2 Evl KF
local macro_rules | `(tactic| walk_at "ev") => `(tactic| repeat' (first | exact ev_c | exact ev_var rfl | exact rv_I0 | refine' rv_I ?_ | refine' rv_eq ?_ | refine' rv_ne ?_ | refine' ev_op ?_ ?_ ?_ | exact ea_nil | refine' ea_cons ?_ ?_ | refine' et_test ?_ | refine' et_B ?_ | refine' et_not ?_ | refine' ev_notV ?_))

open PySem
/-! ### lists and tuples alike -/
def iSeq (K : PySem.W.Frag) (tl : TE) : TI := fun σ H R => iList K tl σ H R ∨ iTup K tl σ H R
theorem pi_seq {X : Cx} {tg l : Expr} {tl : TE} {K : PySem.W.Frag} (hK : X.K = K) (hl : PE X l tl) : PI X tg l (iSeq K tl) where
  run := fun pins s σ H R I h => by
    subst hK
    rcases h with h | h
    · exact (pi_list hl).run pins s σ H R I h
    · exact (pi_tup hl).run pins s σ H R I h
def rIxQ (K : PySem.W.Frag) : R2 := fun x y H Q => rIxL K x y H Q ∨ rIxT K x y H Q
theorem ix_seqQ {X : Cx} {K : PySem.W.Frag} (hK : X.K = K) : IxR X (rIxQ K) := by
  subst hK
  intro value slice pins s σ H x y v u Q I rx ry h hs
  rcases h with h | h
  · exact ix_list value slice pins s σ H x y v u Q I rx ry h hs
  · exact ix_tup value slice pins s σ H x y v u Q I rx ry h hs
def rSortedQ (K : PySem.W.Frag) : List V → Hp → VK → Prop := fun vs H Q => rSortedS K vs H Q ∨ KV.rSortedST K vs H Q
theorem cr_sortedQ {X : Cx} {K : PySem.W.Frag} (hK : X.K = K) : CallR X (.builtin "sorted") (rSortedQ K) := by
  subst hK
  intro pins s σ H vs us Q I r h
  rcases h with h | h
  · exact cr_sortedS pins s σ H vs us Q I r h
  · exact KV.cr_sortedST pins s σ H vs us Q I r h
/-- a list or a tuple stands at l -/
def SqAt (H : Hp) (l : Addr) (xs : List V) : Prop := H l = some (.lst xs) ∨ H l = some (.tup xs)
theorem SqAt.mono {H H' : Hp} {l : Addr} {xs : List V} (h : SqAt H l xs) (e : Ex H H') : SqAt H' l xs := h.imp (e _ _) (e _ _)
theorem SqAt.sq {K : PySem.W.Frag} {H : Hp} {l : Addr} {xs : List V} (h : SqAt H l xs) : SqL K H l xs ∨ SqT K H l xs := h.imp sq_of st_of
section
variable {K : PySem.W.Frag} {σ : L2.St} {H H' : Hp} {t : TT} {te ta tb tl : TE} {x y v : V} {a0 : Addr} {xs : List V}
theorem el_lcQ {j : Nat} {vs : List Nat} (f : Nat → Bool) (g : Nat → V) (h : Ev tl σ H (.ref a0)) (hx : SqAt H a0 xs) (hz : xs.length ≤ 40000) (hw : ∀ x, wipe ((wipe σ vs).set j (some x)) vs = wipe σ vs)
    (ht : ∀ (i : Nat) (x : V) H1, Ex H H1 → xs[i]? = some x → EvT t ((wipe σ vs).set j (some x)) H1 (f i)) (he : ∀ (i : Nat) (x : V) H1, Ex H H1 → xs[i]? = some x → f i = true → Ev te ((wipe σ vs).set j (some x)) H1 (g i)) :
    EvL (tLc (iSeq K tl) (gName j) t te vs) σ H (given xs.length f g) := fun H1 e Q q => by
  rcases hx with hx | hx
  · exact Or.inl ((el_lcL (K := K) f g h (sq_of hx) hz hw ht he) H1 e Q q)
  · exact Or.inr ((el_lcW (K := K) f g (ew_of h hx) hz hw ht he) H1 e Q q)
theorem rv_ixQ {i : Int} (h : SqAt H a0 xs) (ha : atI xs i = some v) : RV (rIxQ K) (.ref a0) (.int i) H v := fun H1 e Q q => h.elim (fun h => .inl (rv_ixL (K := K) (sq_of h) ha H1 e Q q)) fun h => .inr (rv_ixT (K := K) (st_of h) ha H1 e Q q)
theorem ev_lenQ (h : Ev te σ H (.ref a0)) (hx : SqAt H a0 xs) : Ev (tCB (fun xs H Q => ∃ p ys, xs = [V.ref p] ∧ (SqL K H p ys ∨ SqT K H p ys) ∧ Q (.int (ys.length : Nat)) H) (tCons te tNil)) σ H (.int (xs.length : Nat)) := fun H1 e Q q => h H1 e _ fun H2 e2 => ⟨a0, xs, rfl, ((hx.mono e).mono e2).sq, q H2 e2⟩
theorem rv_inS {c : Nat} {w : Str} : RV (fun x y H Q => ∃ (c : Nat) (z : Str), x = .str ⟨#[c]⟩ ∧ y = .str z ∧ Q (.bl (decide (c ∈ z.cps.toList))) H) (.str ⟨#[c]⟩) (.str w) H (.bl (decide (c ∈ w.cps.toList))) := fun H1 _ _ q => ⟨c, w, rfl, rfl, q H1 (Ex.refl H1)⟩
theorem ev_lenStr {s : Str} (h : Ev te σ H (.str s)) (hz : s.length ≤ 100000) : Ev (tCB (fun xs H Q => ∃ z : Str, xs = [.str z] ∧ z.length ≤ sizeLine ∧ Q (.int z.length) H) (tCons te tNil)) σ H (.int (s.length : Nat)) := fun H1 e Q q => h H1 e _ fun H2 e2 => ⟨s, rfl, sz_of hz, q H2 e2⟩
theorem ev_lenSet {ss : List Str} (h : Ev te σ H (.ref a0)) (hp : SqAt H a0 (ss.map V.str)) (hz : ss.length ≤ 1000) : Ev (KS.tLenT K te) σ H (.int (KS.unlike ss ss.length : Nat)) := fun H1 e Q q => h H1 e _ fun H2 e2 => ⟨a0, ss, rfl, ((hp.mono e).mono e2).sq, hz, q H2 e2⟩
theorem ev_allL {bs : List Bool} (h : EvL te σ H (bs.map V.bl)) : Ev (tCB (rAll K) (tCons te tNil)) σ H (.bl (bs.all id)) := fun H1 e Q q => h H1 e _ fun p H2 _ e2 hp => ⟨p, bs, rfl, sq_of hp, q H2 e2⟩
theorem s_ifRaw {D : Ends} {b : Bool} (h : EvT t σ H b) (h1 : b = true → ∀ H1, Ex H H1 → ta σ H1 D.rt) (h2 : b = false → ∀ H1, Ex H H1 → tb σ H1 D.rt) : tRet (tIf t ta tb) D σ H := h H (Ex.refl H) _ fun H1 e1 => by
  cases b with
  | true => exact h1 rfl H1 e1
  | false => exact h2 rfl H1 e1
end
/-- isinstance(x, (list, tuple)) -/
theorem ev_isSeq {w : World} {K : PySem.W.Frag} {mg : Str → Option Value} {a : Ads} {p : Addr} {H : Hp} {v : V} {σ : L2.St} {te : TE} (T : Txt w K mg a) {s : Sh} (hv : Ev te σ H v) (h : Vw a p H v s) : Ev (tCB (rIsiT K) (tCons te (tCons (tTup (tCons (tC (.ty "list")) (tCons (tC (.ty "tuple")) tNil))) tNil))) σ H (.bl (isW s "list" || isW s "tuple")) := fun H1 e1 Q q =>
  hv H1 e1 _ fun H2 e2 => ⟨by show 2 ≤ sizeLine; decide, fun tp ht => by
    have e3 := Ex.new ht (o := .tup [.ty "list", .ty "tuple"])
    rcases ((h.mono (e1.trans e2)).mono e3).ty T with ⟨hm, ty⟩ | ⟨hm, ty⟩
    · refine ⟨v, tp, [.ty "list", .ty "tuple"], .type (tyW s), [.type "list", .type "tuple"], _, rfl, upd_same, .cons (.ty _) (.cons (.ty _) .nil), ty, ?_, q _ (e2.trans e3)⟩
      refine kitAny_cons (b := isW s "list") (kit_ty (kit_isW hm (by decide))) (fun z => ?_) (fun z => by rw [z]; rfl)
      refine kitAny_cons (b := isW s "tuple") (kit_ty (kit_isW hm (by decide))) (fun z2 => by rw [z, z2]; rfl) (fun z2 => by rw [z, z2]; rfl)
    · refine ⟨v, tp, [.ty "list", .ty "tuple"], .ref a.f_Mode, [.type "list", .type "tuple"], _, rfl, upd_same, .cons (.ty _) (.cons (.ty _) .nil), ty, ?_, q _ (e2.trans e3)⟩
      rw [isW_m hm, isW_m hm]
      exact kitAny_cons (b := false) T.mi_Mode_list (fun _ => kitAny_cons (b := false) T.mi_Mode_tuple (fun _ => rfl) (fun z => nomatch z)) (fun z => nomatch z)⟩
/-- the items of a list or a tuple -/
def itemsW : Sh → Option (List Sh)
  | .lst ws => some ws
  | .tup ws => some ws
  | _ => none
theorem seq_of {a : Ads} {p : Addr} {H : Hp} {v : V} {s : Sh} (h : Vw a p H v s) (yes : (isW s "list" || isW s "tuple") = true) : ∃ l xs ws, v = .ref l ∧ SqAt H l xs ∧ VwA a p H xs ws ∧ itemsW s = some ws ∧ ws.length ≤ 16 ∧ toldW s = seqOk ws := by
  cases h with
  | lst ne at_ few all => exact ⟨_, _, _, rfl, .inl at_, all, rfl, few, rfl⟩
  | tup ne at_ few all => exact ⟨_, _, _, rfl, .inr at_, all, rfl, few, rfl⟩
  | _ => exact nomatch (show false = true from yes)
theorem told_no {s : Sh} (no : (isW s "list" || isW s "tuple") = false) (nn : s ≠ .non) : toldW s = false := by
  cases s with
  | non => exact absurd rfl nn
  | lst _ => exact nomatch (show true = false from no)
  | tup _ => exact nomatch (show true = false from no)
  | _ => rfl
theorem non_iff {a : Ads} {p : Addr} {H : Hp} {v : V} {s : Sh} (h : Vw a p H v s) : v = .non ↔ s = .non := by
  cases h <;> simp
theorem all_range {α : Type} (f : α → Bool) (xs : List α) : ((List.range xs.length).map fun i => ((xs[i]?).map f).getD true).all id = xs.all f := by
  rw [Bool.eq_iff_iff, List.all_eq_true, List.all_eq_true]
  constructor
  · intro h x hx
    obtain ⟨i, hi, e⟩ := List.mem_iff_getElem.mp hx
    have := h _ (List.mem_map.mpr ⟨i, List.mem_range.mpr hi, rfl⟩)
    rw [List.getElem?_eq_getElem hi, e] at this
    exact this
  · intro h b hb
    obtain ⟨i, hi, rfl⟩ := List.mem_map.mp hb
    have hi := List.mem_range.mp hi
    rw [List.getElem?_eq_getElem hi]
    exact h _ (List.getElem_mem hi)
theorem strs_of {a : Ads} {p : Addr} {H : Hp} : ∀ {xs : List V} {ws : List Sh}, VwA a p H xs ws → ws.all nmW = true → xs = (ws.filterMap strOf).map V.str
  | _, _, .nil, _ => rfl
  | _, _, .cons one rest, h => by
    rw [List.all_cons, Bool.and_eq_true] at h
    cases one with
    | str s _ =>
      rw [List.filterMap_cons]
      show _ = V.str s :: _
      rw [← strs_of rest h.2]
    | _ => exact nomatch (show false = true from h.1)
theorem strs_len : ∀ {ws : List Sh}, ws.all nmW = true → (ws.filterMap strOf).length = ws.length
  | [], _ => rfl
  | w :: ws, h => by
    rw [List.all_cons, Bool.and_eq_true] at h
    cases w with
    | str s =>
      rw [List.filterMap_cons]
      exact congrArg (· + 1) (strs_len h.2)
    | _ => exact nomatch (show false = true from h.1)
theorem unlike_iff {xs : List Str} (h : xs.length ≤ 2) : (KS.unlike xs xs.length = xs.length) ↔ xs.Nodup := by
  match xs, h with
  | [], _ => exact ⟨fun _ => .nil, fun _ => rfl⟩
  | [a], _ => exact ⟨fun _ => by simp, fun _ => rfl⟩
  | [a, b], _ =>
    show KS.unlike [a, b] 2 = 2 ↔ _
    rw [KS.unlike_two]
    by_cases e : a = b
    · subst e
      rw [if_pos rfl]
      simp
    · rw [if_neg e]
      simp [e]
  | _ :: _ :: _ :: _, h => simp at h
theorem not_f {b : Bool} (h : (!b) = false) : b = true := by
  cases b
  · exact nomatch h
  · rfl
theorem not_t {b : Bool} (h : (!b) = true) : b = false := by
  cases b
  · rfl
  · exact nomatch h
def spName (a : Ads) : Sp := fun vs H Q _ => ∃ (p : Addr) (v : V) (s : Sh), vs = [v] ∧ Vw a p H v s ∧ ∀ H', Ex H H' → Q (.bl (nmW s)) H'
def spUnlike (a : Ads) : Sp := fun vs H Q _ => ∃ (p l : Addr) (xs : List V) (ws : List Sh), vs = [.ref l] ∧ SqAt H l xs ∧ VwA a p H xs ws ∧ ws.length ≤ 2 ∧ ∀ H', Ex H H' → Q (.bl (ws.all nmW && unW ws)) H'
def spTold (a : Ads) : Sp := fun vs H Q _ => ∃ (p : Addr) (v : V) (s : Sh), vs = [v] ∧ Vw a p H v s ∧ ∀ H', Ex H H' → Q (.bl (toldW s)) H'
section
variable {P : Program} {w : World} {K : PySem.W.Frag} {mg : Str → Option Value} {base : Heap} {a : Ads}
theorem nmW_no {s : Sh} (h : isW s "str" = false) : nmW s = false := by
  cases s with
  | str z => exact nomatch (show true = false from h)
  | _ => rfl
theorem ok_is_name (T : Txt w K mg a) : FnOk P w K mg base CX0 1 a.f_is_name a.d_is_name ["value"] (spName a) := by
  refine T.fn_is_name.ok sc_is_name (fun vs H Q E h => ?_) (fun cdv A outer s H vs Q E hr h => ?_)
  · obtain ⟨_, _, _, rfl, _⟩ := h
    rfl
  · obtain ⟨p, x, sh, rfl, hv, k⟩ := h
    refine ⟨_, (pss_cons (ps_if (PW.pt (pw_or (pt_not (pt_val (pe_callB call_isi (by rfl) T.b_isinstance PyProof.Rows.boot_isinstance (pa_cons (pv 0) (pa_cons (pe_bltn (v := .ty "str") (by rfl) T.b_str (by decide +kernel) rfl) pa_nil))))) (pw_or1 (pt_not (pt_chain op_le op_le pe_int (pe_callB call_len_str (by rfl) T.b_len PySem.boot_len (pa_cons (pv 0) pa_nil)) pe_int))))) (pss_one (ps_ret pe_bl)) pss_nil)
    (pss_one (ps_ret (pe_callB (cr_all rfl) (by rfl) T.b_all (by decide +kernel) (pa_cons (pe_lc (own := [("letter", 1)]) (g := gName 1) rfl sc_is_name.nd (pi_str (pv 0)) (blkOk_by (own := [("letter", 1)]) (N := n_is_name) (sc := defScope s_is_name) (by decide +kernel)) (fun _ _ _ _ _ => (pg_name (i := 1) sc_is_name.nd rfl (Or.inl rfl))) (fun _ _ _ _ _ => pts_nil) (fun _ _ _ _ _ => (pe_cmpR op_in_sign (pv 1) (pe_glob (v := .str "abcdefghijklmnopqrstuvwxyz") rfl T.mg_LETTERS.choose_spec ⟨_, rfl⟩) (by rfl)))) pa_nil))))), ?_⟩
    cases hs : isW sh "str" with
    | true =>
      cases hv with
      | str s sz =>
        have hl : s.length = s.cps.size := rfl
        have hr2 : decide ((1 : Int) ≤ (s.length : Nat)) = decide (1 ≤ s.cps.size) := decide_eq_decide.mpr (by omega)
        have hr8 : decide (((s.length : Nat) : Int) ≤ 8) = decide (s.cps.size ≤ 8) := decide_eq_decide.mpr (by omega)
        refine q_when (b := !(decide (1 ≤ s.cps.size) && decide (s.cps.size ≤ 8))) (et_is (et_or (a := false) (b := !(decide (1 ≤ s.cps.size) && decide (s.cps.size ≤ 8))) (et_is (et_not (a := true) (et_B (ev_isW (p := p) T (ev_var rfl) (.str s sz) (t := "str") (by decide)))) rfl) fun _ => et_not (a := decide (1 ≤ s.cps.size) && decide (s.cps.size ≤ 8)) (et_test (ev_is (ev_chain ev_c (ev_lenStr (ev_var rfl) (by omega)) rv_I0 fun _ => ⟨ev_c, rv_I0⟩) ?_))) rfl) (fun hb H1 e1 => ?_) fun hb H1 e1 => ?_
        · rw [hr2, hr8]
        · refine s_ret (v := .bl false) ev_c fun H2 e2 => ?_
          have := k H2 (e1.trans e2)
          have z : nmW (.str s) = false := by
            show nmS s = false
            unfold nmS
            rw [not_t hb]
            rfl
          rw [z] at this
          exact this
        · have hh := not_f hb
          have z : nmW (.str s) = ((List.range s.cps.toList.length).map fun i => ((s.cps.toList[i]?).map fun c => decide (c ∈ lettersS.cps.toList)).getD true).all id := by
            rw [all_range]
            show nmS s = _
            unfold nmS
            rw [hh]
            rfl
          refine s_ret (v := .bl (nmW (.str s))) (ev_is (ev_allL (bs := (List.range s.cps.toList.length).map fun i => ((s.cps.toList[i]?).map fun c => decide (c ∈ lettersS.cps.toList)).getD true) (K := K) (el_is (el_lcS (s := s) (fun _ => true) (fun i => .bl (((s.cps.toList[i]?).map fun c => decide (c ∈ lettersS.cps.toList)).getD true)) (ev_var rfl) (by omega) (fun _ => rfl) (fun i c H4 e4 hx => et_yes) fun i c H4 e4 hx _ => ?_) ?_)) (congrArg V.bl z.symm)) fun H2 e2 => k H2 (e1.trans e2)
          · rw [← Array.getElem?_toList] at hx
            rw [hx]
            exact ev_op (ev_var rfl) ev_c rv_inS
          · rw [given_all, List.map_map]
            rfl
      | _ => exact nomatch (show false = true from hs)
    | false =>
      rw [nmW_no hs] at k
      refine q_when (b := true) (et_or (a := true) (b := true) (et_is (et_not (a := false) (et_B (ev_is (ev_isW T (ev_var rfl) hv (t := "str") (by decide)) (congrArg V.bl hs)))) rfl) fun z => nomatch z) (fun _ H1 e1 => ?_) fun z => nomatch z
      exact s_ret (v := .bl false) ev_c fun H2 e2 => k H2 (e1.trans e2)
theorem ok_unlike (T : Txt w K mg a) : FnOk P w K mg base CX0 2 a.f_are_unlike_names a.d_are_unlike_names ["values"] (spUnlike a) := by
  have G_is_name : FnOk P w K mg base CX0 1 _ _ _ _ := ok_is_name T
  refine T.fn_are_unlike_names.ok sc_are_unlike_names (fun vs H Q E h => ?_) (fun cdv A outer s H vs Q E hr h => ?_)
  · obtain ⟨_, _, _, _, rfl, _⟩ := h
    rfl
  · obtain ⟨p, l, xs, ws, rfl, hl, all, h2, k⟩ := h
    have hrc : Room 1 _ := hr
    refine ⟨_, (pss_cons (ps_if (pt_not (pt_val (pe_callB (cr_all rfl) (by rfl) T.b_all (by decide +kernel) (pa_cons (pe_lc (own := [("value", 1)]) (g := gName 1) rfl sc_are_unlike_names.nd (pi_seq (K := K) rfl (pv 0)) (blkOk_by (own := [("value", 1)]) (N := n_are_unlike_names) (sc := defScope s_are_unlike_names) (by decide +kernel)) (fun _ _ _ _ _ => (pg_name (i := 1) sc_are_unlike_names.nd rfl (Or.inl rfl))) (fun _ _ _ _ _ => pts_nil) (fun _ _ _ _ _ => (pe_call G_is_name hrc rfl T.mg_is_name T.fn_is_name.kp (bd_is_name T) .nil pass0 (pa_cons (pv 1) pa_nil)))) pa_nil)))) (pss_one (ps_ret pe_bl)) pss_nil)
    (pss_one (ps_ret (pe_cmpR op_eq (KS.pe_lenT (K := K) rfl rfl (by rfl) T.b_len (by rfl) T.b_set (pv 0)) (pe_callB call_len_seq (by rfl) T.b_len PySem.boot_len (pa_cons (pv 0) pa_nil)) (nomark _))))), ?_⟩
    have lx := all.len
    refine q_when (b := !ws.all nmW) (et_not (a := ws.all nmW) (et_B (ev_is (ev_allL (bs := (List.range ws.length).map fun i => ((ws[i]?).map nmW).getD true) (K := K) (el_is (el_lcQ (K := K) (xs := xs) (fun _ => true) (fun i => .bl (((ws[i]?).map nmW).getD true)) (ev_var rfl) hl (by omega) (fun _ => rfl) (fun i x H4 e4 hx => et_yes) fun i x H4 e4 hx _ => ?_) ?_)) (congrArg V.bl (all_range nmW ws))))) (fun hb H1 e1 => ?_) fun hb H1 e1 => ?_
    · obtain ⟨s, hs, hv⟩ := all.at2 hx
      rw [hs]
      exact ev_call (vs := [x]) (ea_cons (ev_var rfl) ea_nil) fun H5 e5 Q q E => ⟨p, x, s, rfl, hv.mono (e4.trans e5), q⟩
    · rw [given_all, List.map_map, lx]
      rfl
    · have z := not_t hb
      refine s_ret (v := .bl (ws.all nmW && unW ws)) (ev_is ev_c ?_) fun H2 e2 => k H2 (e1.trans e2)
      rw [z]
      rfl
    · have z := not_f hb
      have hl1 := hl.mono e1
      have es := strs_of all z
      have hlen := strs_len z
      have hl2 : SqAt H1 l ((ws.filterMap strOf).map V.str) := by rw [← es]; exact hl1
      refine s_ret (v := .bl (ws.all nmW && unW ws)) (ev_is (ev_op (ev_lenSet (K := K) (ev_var rfl) hl2 (by omega)) (ev_lenQ (K := K) (ev_var rfl) hl1) (rv_eq rfl)) (congrArg V.bl ?_)) fun H2 e2 => k H2 (e1.trans e2)
      rw [z, Bool.true_and]
      unfold unW
      refine decide_eq_decide.mpr ?_
      rw [← unlike_iff (by omega), hlen, lx]
      constructor
      · intro h
        injection h with h
        omega
      · intro h
        rw [h]
theorem ok_told (T : Txt w K mg a) : FnOk P w K mg base CX0 3 a.f_are_told a.d_are_told ["names"] (spTold a) := by
  have G_are_unlike_names : FnOk P w K mg base CX0 2 _ _ _ _ := ok_unlike T
  refine T.fn_are_told.ok sc_are_told (fun vs H Q E h => ?_) (fun cdv A outer s H vs Q E hr h => ?_)
  · obtain ⟨_, _, _, rfl, _⟩ := h
    rfl
  · obtain ⟨p, v, s, rfl, hv, k⟩ := h
    have hrc : Room 2 _ := hr
    refine ⟨_, (pss_cons (ps_if (pt_cmpR op_isN (pv 0) pe_non (nomark _)) (pss_one (ps_ret pe_bl)) pss_nil)
    (pss_one (ps_ret (pe_and (pe_callB call_isiT (by rfl) T.b_isinstance PyProof.Rows.boot_isinstance (pa_cons (pv 0) (pa_cons (pe_tup (pa_cons (pe_bltn (v := .ty "list") (by rfl) T.b_list (by decide +kernel) rfl) (pa_cons (pe_bltn (v := .ty "tuple") (by rfl) T.b_tuple (by decide +kernel) rfl) pa_nil))) pa_nil))) (pe_and (pe_chain op_le op_le pe_int (pe_callB call_len_seq (by rfl) T.b_len PySem.boot_len (pa_cons (pv 0) pa_nil)) pe_int) (pe_one (pe_call G_are_unlike_names hrc rfl T.mg_are_unlike_names T.fn_are_unlike_names.kp (bd_are_unlike_names T) .nil pass0 (pa_cons (pv 0) pa_nil)))))))), ?_⟩
    refine q_when (b := decide (v = .non)) (et_test (ev_op (ev_var rfl) ev_c rv_isN)) (fun yes H1 e1 => ?_) fun no H1 e1 => ?_
    · have es := (non_iff hv).mp (of_decide_eq_true yes)
      subst es
      exact s_ret (v := .bl true) ev_c fun H2 e2 => k H2 (e1.trans e2)
    · have ns : s ≠ .non := fun z => of_decide_eq_false no ((non_iff hv).mpr z)
      cases hq : (isW s "list" || isW s "tuple") with
      | false =>
        rw [told_no hq ns] at k
        exact s_ret (v := .bl false) (ev_is (ev_andV (a := false) (b := false) (ev_is (ev_isSeq T (ev_var rfl) (hv.mono e1)) (congrArg V.bl hq)) fun z => nomatch z) rfl) fun H2 e2 => k H2 (e1.trans e2)
      | true =>
        obtain ⟨l, xs, ws, rfl, hl, all, _, few, et⟩ := seq_of hv hq
        rw [et] at k
        have lx := all.len
        refine s_ret (v := .bl (seqOk ws)) (ev_is (ev_andV (a := true) (b := seqOk ws) (ev_is (ev_isSeq T (ev_var rfl) (hv.mono e1)) (congrArg V.bl hq)) fun _ => ev_is (ev_andV (a := decide ((1 : Int) ≤ (xs.length : Nat)) && decide (((xs.length : Nat) : Int) ≤ 2)) (b := ws.all nmW && unW ws) (ev_chain ev_c (ev_lenQ (K := K) (ev_var rfl) (hl.mono e1)) rv_I0 fun _ => ⟨ev_c, rv_I0⟩) fun two => ?_) (congrArg V.bl ?_)) rfl) fun H2 e2 => k H2 (e1.trans e2)
        · have l2 := of_decide_eq_true (Bool.and_eq_true_iff.mp two).2
          exact ev_call (vs := [.ref l]) (ea_cons (ev_var rfl) ea_nil) fun H5 e5 Q q E => ⟨p, l, xs, ws, rfl, (hl.mono e1).mono e5, (all.mono e1).mono e5, by omega, q⟩
        · unfold seqOk
          rw [show decide ((1 : Int) ≤ (xs.length : Nat)) = decide (1 ≤ ws.length) from decide_eq_decide.mpr (by omega), show decide (((xs.length : Nat) : Int) ≤ 2) = decide (ws.length ≤ 2) from decide_eq_decide.mpr (by omega)]
end
end KP
set_option Elab.async false
set_option linter.all false
set_option maxRecDepth 100000
set_option maxHeartbeats 4000000
namespace KP
open PySem PySem.Spec PyProof.Rows L2 Evl KF
local macro_rules | `(tactic| walk_at "ev") => `(tactic| repeat' (first | exact ev_c | exact ev_var rfl | exact rv_I0 | refine' rv_I ?_ | refine' rv_eq ?_ | refine' rv_ne ?_ | refine' ev_op ?_ ?_ ?_ | exact ea_nil | refine' ea_cons ?_ ?_ | refine' et_test ?_ | refine' et_B ?_ | refine' et_not ?_ | refine' ev_notV ?_))

open PySem
/-! ### names kept, lines made of anything -/
def oW : Sh → Option (List Str)
  | .lst ws => some (ws.filterMap strOf)
  | .tup ws => some (ws.filterMap strOf)
  | _ => none
def KeptAt (H : Hp) (v : V) (o : Option (List Str)) : Prop := match o with
  | none => v = .non
  | some xs => ∃ (l : Addr) (ys : List Str), v = .ref l ∧ ys.Perm xs ∧ sortedS ys = true ∧ H l = some (.tup (ys.map V.str))
theorem KeptAt.mono {H H' : Hp} {v : V} {o : Option (List Str)} (h : KeptAt H v o) (e : Ex H H') : KeptAt H' v o := by
  cases o with
  | none => exact h
  | some xs =>
    obtain ⟨l, ys, hv, hp, hs, hl⟩ := h
    exact ⟨l, ys, hv, hp, hs, e _ _ hl⟩
theorem KeptAt.exI {H H' : Hp} {v : V} {o : Option (List Str)} {p C dx : Addr} {fs : List (Str × V)} (h : KeptAt H v o) (hp : H p = some (.ins C dx fs)) (e : ExB p H H') : KeptAt H' v o := by
  cases o with
  | none => exact h
  | some xs =>
    obtain ⟨l, ys, hv, hm, hs, hl⟩ := h
    exact ⟨l, ys, hv, hm, hs, e _ _ hl (ne_of hl hp fun z => nomatch z)⟩
theorem ModeAt.exN {a : Ads} {H H' : Hp} {p q : Addr} {n : Nat} (h : ModeAt a H q n) (ne : q ≠ p) (e : ExB p H H') : ModeAt a H' q n := let ⟨dx, h⟩ := h; ⟨dx, e _ _ h ne⟩
def spAsc (a : Ads) : Sp := fun vs H Q _ => ∃ (p : Addr) (v : V) (s : Sh), vs = [v] ∧ Vw a p H v s ∧ toldW s = true ∧ ∀ v' H', Ex H H' → KeptAt H' v' (oW s) → Q v' H'
theorem told_seq {a : Ads} {p : Addr} {H : Hp} {v : V} {s : Sh} (h : Vw a p H v s) (yes : toldW s = true) : (s = .non ∧ v = .non) ∨ ∃ (l : Addr) (ss : List Str), v = .ref l ∧ SqAt H l (ss.map V.str) ∧ oW s = some ss ∧ ss.length ≤ 2 ∧ 1 ≤ ss.length ∧ ss.Nodup ∧ ∀ z ∈ ss, nmS z = true := by
  have key : ∀ {l : Addr} {xs : List V} {ws : List Sh}, SqAt H l xs → VwA a p H xs ws → seqOk ws = true → SqAt H l ((ws.filterMap strOf).map V.str) ∧ (ws.filterMap strOf).length ≤ 2 ∧ 1 ≤ (ws.filterMap strOf).length ∧ (ws.filterMap strOf).Nodup ∧ ∀ z ∈ ws.filterMap strOf, nmS z = true := fun {l xs ws} hl all ok => by
    unfold seqOk at ok
    rw [Bool.and_eq_true, Bool.and_eq_true, Bool.and_eq_true, decide_eq_true_iff, decide_eq_true_iff] at ok
    obtain ⟨⟨h1, h2⟩, h3, h4⟩ := ok
    have es := strs_of all h3
    have hlen := strs_len h3
    refine ⟨by rw [← es]; exact hl, by omega, by omega, of_decide_eq_true h4, fun z hz => ?_⟩
    obtain ⟨w, hw, ew⟩ := List.mem_filterMap.mp hz
    have := List.all_eq_true.mp h3 w hw
    cases w with
    | str s => cases ew; exact this
    | _ => cases ew
  cases h with
  | non => exact .inl ⟨rfl, rfl⟩
  | lst ne at_ few all =>
    obtain ⟨h1, h2, h3, h4, h5⟩ := key (.inl at_) all yes
    exact .inr ⟨_, _, rfl, h1, rfl, h2, h3, h4, h5⟩
  | tup ne at_ few all =>
    obtain ⟨h1, h2, h3, h4, h5⟩ := key (.inr at_) all yes
    exact .inr ⟨_, _, rfl, h1, rfl, h2, h3, h4, h5⟩
  | _ => exact nomatch (show false = true from yes)
/-! BadKind is raised -/
def spBadI (a : Ads) : Sp := fun vs H Q _ => ∃ (e : Addr) (v : V), vs = [.ref e, v] ∧ H e = some (exo e a.x_BadKind none) ∧ ∀ dx, H dx = none → dx ≠ e → Q .non (upd (upd H dx (exd dx [(("at" : Str), v)])) e (exo e a.x_BadKind (some dx)))
def Told (a : Ads) (E : XK) (H : Hp) (n : Nat) : Prop := ∀ d H', H d = none → Ex H H' → H' d = some (.xd [(("at" : Str), .int (n : Nat))]) → E (.ref a.x_BadKind) (some d) H'
theorem Told.back {a : Ads} {E : XK} {H H1 : Hp} {n : Nat} (h : Told a E H n) (e : Ex H H1) : Told a E H1 n := fun d H' hd e' h' => h d H' (fresh_back e hd) (e.trans e') h'
theorem raise_told {a : Ads} {E : XK} {H : Hp} {n : Nat} (h : Told a E H n) : ∀ e, H e = none → spBadI a (.ref e :: ([.int (n : Nat)] ++ [])) (upd H e (exo e a.x_BadKind none)) (fun v H2 => v = .non ∧ ∃ (d : Addr) (fs : List (Str × V)), H2 e = some (exo e a.x_BadKind (some d)) ∧ H2 d = some (exd d fs) ∧ H d = none ∧ E (.ref a.x_BadKind) (some d) (upd (del H2 e) d (.xd fs))) (fun _ _ _ => False) := fun e he =>
  ⟨e, .int (n : Nat), rfl, upd_same, fun dx hdx ne => by
    have hd : H dx = none := by rw [upd_ne ne] at hdx; exact hdx
    refine ⟨rfl, dx, [(("at" : Str), .int (n : Nat))], upd_same, by rw [upd_ne ne, upd_same], hd, h dx _ hd (fun b o hb => ?_) upd_same⟩
    have be := ne_of_none hb he
    have bd := ne_of_none hb hd
    rw [upd_ne bd, del_ne be, upd_ne be, upd_ne bd, upd_ne be]
    exact hb⟩
structure Ln where
  form : Str
  o1 : Option (List Str)
  o2 : Option (List Str)
  must : Nat
  never : Nat
def lnFs (f : Str) (v1 v2 : V) (m1 m2 : Addr) : List (Str × V) := putF "_never" (.ref m2) (putF "_must" (.ref m1) (putF "_groups" v2 (putF "_owners" v1 (putF "_form" (.str f) []))))
theorem fs_form (f : Str) (v1 v2 : V) (m1 m2 : Addr) : (lnFs f v1 v2 m1 m2).lookup ("_form" : Str) = some (.str f) := by
  unfold lnFs
  rw [lookup_putF, if_neg (by decide +kernel), lookup_putF, if_neg (by decide +kernel), lookup_putF, if_neg (by decide +kernel), lookup_putF, if_neg (by decide +kernel), lookup_putF, if_pos rfl]
theorem fs_owners (f : Str) (v1 v2 : V) (m1 m2 : Addr) : (lnFs f v1 v2 m1 m2).lookup ("_owners" : Str) = some v1 := by
  unfold lnFs
  rw [lookup_putF, if_neg (by decide +kernel), lookup_putF, if_neg (by decide +kernel), lookup_putF, if_neg (by decide +kernel), lookup_putF, if_pos rfl]
theorem fs_groups (f : Str) (v1 v2 : V) (m1 m2 : Addr) : (lnFs f v1 v2 m1 m2).lookup ("_groups" : Str) = some v2 := by
  unfold lnFs
  rw [lookup_putF, if_neg (by decide +kernel), lookup_putF, if_neg (by decide +kernel), lookup_putF, if_pos rfl]
theorem fs_must (f : Str) (v1 v2 : V) (m1 m2 : Addr) : (lnFs f v1 v2 m1 m2).lookup ("_must" : Str) = some (.ref m1) := by
  unfold lnFs
  rw [lookup_putF, if_neg (by decide +kernel), lookup_putF, if_pos rfl]
theorem fs_never (f : Str) (v1 v2 : V) (m1 m2 : Addr) : (lnFs f v1 v2 m1 m2).lookup ("_never" : Str) = some (.ref m2) := by
  unfold lnFs
  rw [lookup_putF, if_pos rfl]
def LineAt (a : Ads) (H : Hp) (b : Addr) (L : Ln) : Prop := ∃ dx v1 v2 m1 m2, H b = some (.ins a.f_Line dx (lnFs L.form v1 v2 m1 m2)) ∧ KeptAt H v1 L.o1 ∧ KeptAt H v2 L.o2 ∧ ModeAt a H m1 L.must ∧ ModeAt a H m2 L.never
theorem LineAt.mono {a : Ads} {H H' : Hp} {b : Addr} {L : Ln} (h : LineAt a H b L) (e : Ex H H') : LineAt a H' b L := let ⟨dx, v1, v2, m1, m2, h0, h1, h2, h3, h4⟩ := h; ⟨dx, v1, v2, m1, m2, e _ _ h0, h1.mono e, h2.mono e, h3.mono e, h4.mono e⟩
def lnOf (f o g m n : Sh) : Ln := ⟨(strOf f).getD "", oW o, oW g, (numW m).getD 0, (numW n).getD 0⟩
def EvP (te : TE) (σ : L2.St) (H : Hp) (P : Hp → V → Prop) : Prop := ∀ H1, Ex H H1 → ∀ Q : VK, (∀ v H2, Ex H1 H2 → P H2 v → Q v H2) → te σ H1 Q
section
variable {K : PySem.W.Frag} {σ : L2.St} {H : Hp} {te ta tv : TE} {y : V} {D : Ends} {tz : TS} {P : Hp → V → Prop} {a : Ads}
theorem et_truth {i : Int} (h : Ev te σ H (.int i)) : EvT (fun σ H Q => te σ H fun x H' => ∃ k, TruV K x H' k ∧ Q k H') σ H (i != 0) := fun H1 e Q q => h H1 e _ fun H2 e2 => ⟨_, rfl, q H2 e2⟩
theorem q_fldP {p C dx : Addr} {fs : List (Str × V)} {f : Str} (hv : EvP tv σ H P) (ha : ∀ H1, Ex H H1 → Ev ta σ H1 (.ref p)) (hp : H p = some (.ins C dx fs)) (c : Cls K C) (n : NoAttr K C f) (hl : fs.length < 1000)
    (k : ∀ v H1 H2 H3, Ex H H1 → P H1 v → Ex H1 H2 → H3 = upd H2 p (.ins C dx (putF f v fs)) → tz D σ H3) : tSeq (sFld K ta tv f) tz D σ H :=
  hv H (Ex.refl _) _ fun v H1 e1 hP => ha H1 e1 H1 (Ex.refl _) _ fun H2 e2 => ⟨p, C, dx, fs, rfl, e2 _ _ (e1 _ _ hp), c, n, hl, k v H1 H2 _ e1 hP e2 rfl⟩
theorem s_fldP {p C dx : Addr} {fs : List (Str × V)} {f : Str} (hv : EvP tv σ H P) (ha : ∀ H1, Ex H H1 → Ev ta σ H1 (.ref p)) (hp : H p = some (.ins C dx fs)) (c : Cls K C) (n : NoAttr K C f) (hl : fs.length < 1000)
    (k : ∀ v H1 H2 H3, Ex H H1 → P H1 v → Ex H1 H2 → H3 = upd H2 p (.ins C dx (putF f v fs)) → D.nx σ H3) : sFld K ta tv f D σ H :=
  hv H (Ex.refl _) _ fun v H1 e1 hP => ha H1 e1 H1 (Ex.refl _) _ fun H2 e2 => ⟨p, C, dx, fs, rfl, e2 _ _ (e1 _ _ hp), c, n, hl, k v H1 H2 _ e1 hP e2 rfl⟩
theorem exb_upd {H H1 H2 H3 : Hp} {p : Addr} {o : HO} (e1 : Ex H H1) (e2 : Ex H1 H2) (h : H3 = upd H2 p o) : ExB p H H3 := fun b u hb ne => by
  rw [h, upd_ne ne]
  exact e2 _ _ (e1 _ _ hb)
theorem ep_asc {v : V} {s : Sh} {p : Addr} {E : XK} (h : Ev te σ H v) (hv : Vw a p H v s) (ok : toldW s = true) : EvP (tCall (spAsc a) [] E (tCons te tNil)) σ H (fun H v => KeptAt H v (oW s)) := fun H1 e Q q => h H1 e _ fun H2 e2 => ⟨p, v, s, rfl, hv.mono (e.trans e2), ok, fun v' H3 e3 k3 => q v' H3 (e2.trans e3) k3⟩
/-- a new Mode -/
theorem ep_mode {n : Nat} {b : Addr} {o : HO} {E : XK} (h : Ev te σ H (.int (n : Nat))) (hn : n < 512) (hb : H b = some o) : EvP (tMake a.f_Mode (spMode a) [] E (tCons te tNil)) σ H (fun H v => ∃ q, v = .ref q ∧ q ≠ b ∧ ModeAt a H q n) := fun H1 e Q q => h H1 e _ fun H2 e2 p dx hp hdx ne => by
  have eN : Ex H2 (upd (upd H2 dx (.own p)) p (.ins a.f_Mode dx [])) := fun c o hc => by rw [upd_ne (ne_of_none hc hp), upd_ne (ne_of_none hc hdx)]; exact hc
  refine ⟨p, dx, n, rfl, hn, upd_same, fun H' e' h' => ⟨rfl, q _ H' (fun c o hc => e' c o (eN _ _ (e2 _ _ hc)) (ne_of_none (e2 _ _ hc) hp)) ⟨p, rfl, (ne_of_none (e2 _ _ (e _ _ hb)) hp).symm, dx, h'⟩⟩⟩
end
theorem len2 (f g : Str) (x y : V) : (putF f x (putF g y [])).length < 1000 := by
  have h1 := length_putF f x (putF g y [])
  have h2 := length_putF g y []
  simp only [List.length_nil] at h2
  omega
theorem len3 (f g h : Str) (x y z : V) : (putF f x (putF g y (putF h z []))).length < 1000 := by
  have h1 := length_putF f x (putF g y (putF h z []))
  have h2 := length_putF g y (putF h z [])
  have h3 := length_putF h z []
  simp only [List.length_nil] at h3
  omega
theorem len4 (f g h i : Str) (x y z w : V) : (putF f x (putF g y (putF h z (putF i w [])))).length < 1000 := by
  have h1 := length_putF f x (putF g y (putF h z (putF i w [])))
  have h2 := length_putF g y (putF h z (putF i w []))
  have h3 := length_putF h z (putF i w [])
  have h4 := length_putF i w []
  simp only [List.length_nil] at h4
  omega
theorem vw_any {a : Ads} {p : Addr} {H : Hp} {v : V} {s : Sh} {K : PySem.W.Frag} (h : Vw a p H v s) (hm : isM s = false) : KW.AnyV K H v := by
  cases h with
  | non => exact .inl rfl
  | bl b => exact .inl rfl
  | int i => exact .inl rfl
  | str s _ => exact .inl rfl
  | lst _ h _ _ => exact .inr ⟨_, rfl, .inl ⟨_, sq_of h⟩⟩
  | tup _ h _ _ => exact .inr ⟨_, rfl, .inr (.inl ⟨_, st_of h⟩)⟩
  | dct _ h => exact .inr ⟨_, rfl, .inr (.inr ⟨_, h⟩)⟩
  | mode _ _ _ => cases hm
theorem form_is {a : Ads} {p : Addr} {H : Hp} {v : V} {s : Sh} (h : Vw a p H v s) : decide (∃ z ∈ (["file", "folder"] : List Str), v = .str z) = formW s := by
  have no : (∀ z : Str, v ≠ .str z) → decide (∃ z ∈ (["file", "folder"] : List Str), v = .str z) = false := fun n => decide_eq_false fun ⟨z, _, e⟩ => n z e
  cases h with
  | str s _ =>
    refine decide_eq_decide.mpr ⟨fun ⟨z, hz, e⟩ => ?_, fun h => ?_⟩
    · cases e
      simpa using hz
    · exact ⟨s, by simpa using h, rfl⟩
  | _ => exact no (fun z e => nomatch e)
structure Args (a : Ads) (b : Addr) (H : Hp) (v1 v2 v3 v4 v5 : V) (f o g m n : Sh) : Prop where
  h1 : Vw a b H v1 f
  h2 : Vw a b H v2 o
  h3 : Vw a b H v3 g
  h4 : Vw a b H v4 m
  h5 : Vw a b H v5 n
  nf : isM f = false
def spLine (a : Ads) : Sp := fun vs H Q E => ∃ (b dx : Addr) (v1 v2 v3 v4 v5 : V) (f o g m n : Sh), vs = [.ref b, v1, v2, v3, v4, v5] ∧ Args a b H v1 v2 v3 v4 v5 f o g m n ∧ H b = some (.ins a.f_Line dx []) ∧ (dueW f o g m n = none → ∀ H', ExB b H H' → LineAt a H' b (lnOf f o g m n) → Q .non H') ∧ ∀ i, dueW f o g m n = some i → Told a E H i
section
variable {P : Program} {w : World} {K : PySem.W.Frag} {mg : Str → Option Value} {base : Heap} {a : Ads}
theorem ok_asc (T : Txt w K mg a) : FnOk P w K mg base CX0 1 a.f_ascending a.d_ascending ["names"] (spAsc a) := by
  refine T.fn_ascending.ok sc_ascending (fun vs H Q E h => ?_) (fun cdv A outer s H vs Q E hr h => ?_)
  · obtain ⟨_, _, _, rfl, _⟩ := h
    rfl
  · obtain ⟨p, v, s, rfl, hv, yes, k⟩ := h
    refine ⟨_, (pss_one (ps_ret (pe_ifExp (pt_cmpR op_isN (pv 0) pe_non (nomark _)) pe_non (pe_callTy call_tuple_of (by rfl) T.b_tuple (by decide +kernel) (pa_cons (pe_callB (cr_sortedQ (K := K) rfl) (by rfl) T.b_sorted (by decide +kernel) (pa_cons (pv 0) pa_nil)) pa_nil))))), ?_⟩
    rcases told_seq hv yes with ⟨rfl, rfl⟩ | ⟨l, ss, rfl, hl, eo, l2, _⟩
    · exact s_ret (v := .non) (ev_if (b := true) (et_is (et_test (ev_op (ev_var rfl) ev_c rv_isN)) rfl) (fun _ => ev_c) fun z => nomatch z) fun H2 e2 => k _ H2 e2 rfl
    · rw [eo] at k
      refine s_ifRaw (b := false) (et_is (et_test (ev_op (ev_var rfl) ev_c rv_isN)) (decide_eq_false fun z => nomatch z)) (fun z => nomatch z) fun _ H1 e1 => ?_
      rcases hl.mono e1 with hl | hl
      · exact ⟨.ref l, rfl, .inl ⟨l, ss, rfl, sq_of hl, by omega, fun ys p hperm hs hp => ⟨p, _, rfl, .inl ⟨sq_of upd_same, fun t ht => k _ _ ((e1.trans (Ex.new hp)).trans (Ex.new ht)) ⟨t, ys, rfl, hperm, hs, upd_same⟩⟩⟩⟩⟩
      · exact ⟨.ref l, rfl, .inr ⟨l, ss, rfl, st_of hl, by omega, fun ys p hperm hs hp => ⟨p, _, rfl, .inl ⟨sq_of upd_same, fun t ht => k _ _ ((e1.trans (Ex.new hp)).trans (Ex.new ht)) ⟨t, ys, rfl, hperm, hs, upd_same⟩⟩⟩⟩⟩
theorem ok_BadKind_init (T : Txt w K mg a) : FnOk P w K mg base CX0 1 a.f_BadKindD_initD a.d_BadKindD_initD ["self", "at"] (spBadI a) := by
  refine T.fn_BadKindD_initD.ok sc_BadKindD_initD (fun vs H Q E h => ?_) (fun cdv A outer s H vs Q E hr h => ?_)
  · obtain ⟨_, _, rfl, _⟩ := h
    rfl
  · obtain ⟨e, v, rfl, he, k⟩ := h
    refine ⟨_, (pss_one (ps_ost (pv 0) (pv 1))), ?_⟩
    exact ⟨v, rfl, .ref e, rfl, e, a.x_BadKind, rfl, T.ox_BadKind, T.np_BadKind, .inl ⟨he, fun dx hdx ne => k dx hdx ne⟩⟩
theorem ok_Line_init (T : Txt w K mg a) : FnOk P w K mg base (L2.CX P w) 7 a.f_LineD_initD a.d_LineD_initD ["self", "form", "owners", "groups", "must", "never"] (spLine a) := by
  have G_are_told : FnOk P w K mg base CX0 6 _ _ _ _ := (ok_told T).mono (by decide)
  have G_is_mode : FnOk P w K mg base CX0 6 _ _ _ _ := (ok_is_mode T).mono (by decide)
  have G_number_of : FnOk P w K mg base CX0 6 _ _ _ _ := (ok_number_of T).mono (by decide)
  have G_ascending : FnOk P w K mg base CX0 6 _ _ _ _ := (ok_asc T).mono (by decide)
  have G_Mode_init : FnOk P w K mg base CX0 5 _ _ _ _ := ok_Mode_init T
  have G_BadKind_init : FnOk P w K mg base CX0 5 _ _ _ _ := (ok_BadKind_init T).mono (by decide)
  refine T.fn_LineD_initD.ok sc_LineD_initD (fun vs H Q E h => ?_) (fun cdv A outer s H vs Q E hr h => ?_)
  · obtain ⟨_, _, _, _, _, _, _, _, _, _, _, _, rfl, _⟩ := h
    rfl
  · obtain ⟨b, dx, v1, v2, v3, v4, v5, f, o, g, m, n, rfl, ag, hb, good, bad⟩ := h
    have hrc : Room 6 _ := hr
    have hrm : Room (5 + 1) _ := hr
    have hrm2 : Room (5 + 1) _ := hr
    refine ⟨_, (pss_cons (ps_if (pt_cmpR (KW.op_notInS rfl hr.units) (pv 1) (pe_glob (v := .ref a.k_FORMS) rfl T.mg_FORMS rfl) (by rfl)) (pss_one (ps_raise rfl (takes_of rfl rfl rfl rfl) (pmk_oex T.ox_BadKind T.ic_BadKind T.it_BadKind G_BadKind_init hrm2 (bd_BadKindD_initD T) .nil pass0 rfl T.mg_BadKind (pa_cons pe_int pa_nil)))) pss_nil)
    (pss_cons (ps_if (pt_not (pt_val (pe_call G_are_told hrc rfl T.mg_are_told T.fn_are_told.kp (bd_are_told T) .nil pass0 (pa_cons (pv 2) pa_nil)))) (pss_one (ps_raise rfl (takes_of rfl rfl rfl rfl) (pmk_oex T.ox_BadKind T.ic_BadKind T.it_BadKind G_BadKind_init hrm2 (bd_BadKindD_initD T) .nil pass0 rfl T.mg_BadKind (pa_cons pe_int pa_nil)))) pss_nil)
    (pss_cons (ps_if (pt_not (pt_val (pe_call G_are_told hrc rfl T.mg_are_told T.fn_are_told.kp (bd_are_told T) .nil pass0 (pa_cons (pv 3) pa_nil)))) (pss_one (ps_raise rfl (takes_of rfl rfl rfl rfl) (pmk_oex T.ox_BadKind T.ic_BadKind T.it_BadKind G_BadKind_init hrm2 (bd_BadKindD_initD T) .nil pass0 rfl T.mg_BadKind (pa_cons pe_int pa_nil)))) pss_nil)
    (pss_cons (ps_if (pt_not (pt_val (pe_call G_is_mode hrc rfl T.mg_is_mode T.fn_is_mode.kp (bd_is_mode T) .nil pass0 (pa_cons (pv 4) pa_nil)))) (pss_one (ps_raise rfl (takes_of rfl rfl rfl rfl) (pmk_oex T.ox_BadKind T.ic_BadKind T.it_BadKind G_BadKind_init hrm2 (bd_BadKindD_initD T) .nil pass0 rfl T.mg_BadKind (pa_cons pe_int pa_nil)))) pss_nil)
    (pss_cons (ps_if (PW.pt (pw_or (pt_not (pt_val (pe_call G_is_mode hrc rfl T.mg_is_mode T.fn_is_mode.kp (bd_is_mode T) .nil pass0 (pa_cons (pv 5) pa_nil)))) (pw_or1 (pt_truth (pe_op op_and (pe_call G_number_of hrc rfl T.mg_number_of T.fn_number_of.kp (bd_number_of T) .nil pass0 (pa_cons (pv 4) pa_nil)) (pe_call G_number_of hrc rfl T.mg_number_of T.fn_number_of.kp (bd_number_of T) .nil pass0 (pa_cons (pv 5) pa_nil))) (by intro _; rfl))))) (pss_one (ps_raise rfl (takes_of rfl rfl rfl rfl) (pmk_oex T.ox_BadKind T.ic_BadKind T.it_BadKind G_BadKind_init hrm2 (bd_BadKindD_initD T) .nil pass0 rfl T.mg_BadKind (pa_cons pe_int pa_nil)))) pss_nil)
    (pss_cons (ps_fld (pv 0) (pv 1) rfl)
    (pss_cons (ps_fld (pv 0) (pe_call G_ascending hrc rfl T.mg_ascending T.fn_ascending.kp (bd_ascending T) .nil pass0 (pa_cons (pv 2) pa_nil)) rfl)
    (pss_cons (ps_fld (pv 0) (pe_call G_ascending hrc rfl T.mg_ascending T.fn_ascending.kp (bd_ascending T) .nil pass0 (pa_cons (pv 3) pa_nil)) rfl)
    (pss_cons (ps_fld (pv 0) (pe_make T.mk_Mode G_Mode_init hrm rfl T.mg_Mode (bd_ModeD_initD T) .nil pass0 (pa_cons (pe_call G_number_of hrc rfl T.mg_number_of T.fn_number_of.kp (bd_number_of T) .nil pass0 (pa_cons (pv 4) pa_nil)) pa_nil)) rfl)
    (pss_one (ps_fld (pv 0) (pe_make T.mk_Mode G_Mode_init hrm rfl T.mg_Mode (bd_ModeD_initD T) .nil pass0 (pa_cons (pe_call G_number_of hrc rfl T.mg_number_of T.fn_number_of.kp (bd_number_of T) .nil pass0 (pa_cons (pv 5) pa_nil)) pa_nil)) rfl))))))))))), ?_⟩
    refine q_when (b := !formW f) (et_is (et_test (ev_op (ev_var rfl) ev_c (KW.rv_inS (neg := true) (zs := ["file", "folder"]) (vw_any ag.h1 ag.nf) (T.t_FORMS _)))) (congrArg (!·) (form_is ag.h1))) (fun hb1 H1 e1 => ?_) fun hb1 H1 e1 => ?_
    · exact ⟨by show 1 ≤ 1000; decide, raise_told ((bad 0 (by unfold dueW; rw [if_pos (not_t hb1)])).back e1)⟩
    have z1 := not_f hb1
    refine q_when (b := !toldW o) (et_not (a := toldW o) (et_B (ev_call (vs := [v2]) (ea_cons (ev_var rfl) ea_nil) fun H2 e Q q E => ⟨b, v2, o, rfl, ag.h2.mono (e1.trans e), q⟩))) (fun hb2 H2 e2 => ?_) fun hb2 H2 e2 => ?_
    · exact ⟨by show 1 ≤ 1000; decide, raise_told ((bad 1 (by unfold dueW; rw [if_neg (by rw [z1]; decide), if_pos (not_t hb2)])).back (e1.trans e2))⟩
    have z2 := not_f hb2
    replace e1 := e1.trans e2
    clear e2
    refine q_when (b := !toldW g) (et_not (a := toldW g) (et_B (ev_call (vs := [v3]) (ea_cons (ev_var rfl) ea_nil) fun H2 e Q q E => ⟨b, v3, g, rfl, ag.h3.mono (e1.trans e), q⟩))) (fun hb2 H2 e2 => ?_) fun hb2 H2 e2 => ?_
    · exact ⟨by show 1 ≤ 1000; decide, raise_told ((bad 2 (by unfold dueW; rw [if_neg (by rw [z1]; decide), if_neg (by rw [z2]; decide), if_pos (not_t hb2)])).back (e1.trans e2))⟩
    have z3 := not_f hb2
    replace e1 := e1.trans e2
    clear e2
    have due3 : dueW f o g m n = (match numW m with
      | none => some 3
      | some x => match numW n with
        | none => some 4
        | some y => if Builtin.bitAnd (x : Int) (y : Int) = 0 then none else some 4) := by
      unfold dueW
      rw [if_neg (by rw [z1]; decide), if_neg (by rw [z2]; decide), if_neg (by rw [z3]; decide)] <;> (cases numW m <;> first | rfl | (cases numW n <;> rfl))
    rw [due3] at good bad
    refine q_when (b := !(numW m).isSome) (et_not (a := (numW m).isSome) (et_B (ev_call (vs := [v4]) (ea_cons (ev_var rfl) ea_nil) fun H2 e Q q E => ⟨b, v4, m, rfl, ag.h4.mono (e1.trans e), q⟩))) (fun hb2 H2 e2 => ?_) fun hb2 H2 e2 => ?_
    · refine ⟨by show 1 ≤ 1000; decide, raise_told ((bad 3 ?_).back (e1.trans e2))⟩
      have := not_t hb2
      cases hm : numW m with
      | none => rfl
      | some x => rw [hm] at this; cases this
    have z4 := not_f hb2
    replace e1 := e1.trans e2
    clear e2
    obtain ⟨x, hx⟩ := Option.isSome_iff_exists.mp z4
    rw [hx] at good bad
    have num : ∀ (j : Nat) (v : V) (s : Sh) (k : Nat) {σ : L2.St} {H5 : Hp} {E : XK}, Vw a b H5 v s → numW s = some k → σ[j]? = some (some v) → Ev (tCall (spNum a) [] E (tCons (tVar j) tNil)) σ H5 (.int (k : Nat)) := fun j v s k σ H5 E hv hk hs => ev_call (vs := [v]) (ea_cons (ev_var hs) ea_nil) fun H6 e Q q E => ⟨b, v, s, k, rfl, hv.mono e, hk, q⟩
    cases hy : numW n with
    | none =>
      rw [hy] at bad
      refine q_when (b := true) (et_or (a := true) (b := true) (et_is (et_not (a := (numW n).isSome) (et_B (ev_call (vs := [v5]) (ea_cons (ev_var rfl) ea_nil) fun H2 e Q q E => ⟨b, v5, n, rfl, ag.h5.mono (e1.trans e), q⟩))) (by rw [hy]; rfl)) fun z => nomatch z) (fun _ H2 e2 => ?_) fun z => nomatch z
      exact ⟨by show 1 ≤ 1000; decide, raise_told ((bad 4 rfl).back (e1.trans e2))⟩
    | some y =>
      rw [hy] at good bad
      refine q_when (b := (Builtin.bitAnd (x : Int) (y : Int)) != 0) (et_is (et_or (a := false) (b := (Builtin.bitAnd (x : Int) (y : Int)) != 0) (et_is (et_not (a := (numW n).isSome) (et_B (ev_call (vs := [v5]) (ea_cons (ev_var rfl) ea_nil) fun H2 e Q q E => ⟨b, v5, n, rfl, ag.h5.mono (e1.trans e), q⟩))) (by rw [hy]; rfl)) fun _ => et_truth (K := K) (ev_op (num 4 v4 m x (ag.h4.mono e1) hx rfl) (num 5 v5 n y (ag.h5.mono e1) hy rfl) rv_I0)) rfl) (fun yes H2 e2 => ?_) fun no H2 e2 => ?_
      · refine ⟨by show 1 ≤ 1000; decide, raise_told ((bad 4 ?_).back (e1.trans e2))⟩
        show (if _ = (0 : Int) then none else some 4) = _
        rw [if_neg (bne_iff_ne.mp yes)]
      have z5 : Builtin.bitAnd (x : Int) (y : Int) = 0 := by
        by_cases h : Builtin.bitAnd (x : Int) (y : Int) = 0
        · exact h
        · rw [bne_iff_ne.mpr h] at no
          cases no
      have good := good (by show (if _ = (0 : Int) then none else some 4) = none; rw [if_pos z5])
      replace e1 := e1.trans e2
      clear e2
      have hx2 : x < 512 := num_lt ag.h4 hx
      have hy2 : y < 512 := num_lt ag.h5 hy
      obtain ⟨fs, rfl, efs⟩ : ∃ fs : Str, v1 = .str fs ∧ strOf f = some fs := by
        have h1 := ag.h1
        cases h1 with
        | str s _ => exact ⟨s, rfl, rfl⟩
        | _ => exact nomatch (show false = true from z1)
      have hb5 := e1 _ _ hb
      refine q_fld (y := .str fs) (ev_var rfl) (ev_var rfl) hb5 T.c_Line T.n_form_Line (by decide) fun H6 e6 hb6 => ?_
      have st6 : ∀ {v : V} {s : Sh}, Vw a b H v s → Vw a b H6 v s := fun {v s} h => Vw.st ((StP.of e1).trans (StP.ofB e6)) s v h
      refine q_fldP (ep_asc (ev_var rfl) (st6 ag.h2) z2) (fun _ _ => ev_var rfl) hb6 T.c_Line T.n_owners_Line (by show 1 < 1000; decide) fun w1 H7 H8 H9 e7 k1 e8 h9 => ?_
      have b9 := exb_upd e7 e8 h9
      have hb9 : H9 b = some (.ins a.f_Line dx (putF "_owners" w1 (putF "_form" (.str fs) []))) := by rw [h9]; exact upd_same
      have k19 : KeptAt H9 w1 (oW o) := k1.exI (e7 _ _ hb6) (exb_upd (Ex.refl _) e8 h9)
      have st9 : ∀ {v : V} {s : Sh}, Vw a b H v s → Vw a b H9 v s := fun {v s} h => Vw.st (StP.ofB b9) s v (st6 h)
      refine q_fldP (ep_asc (ev_var rfl) (st9 ag.h3) z3) (fun _ _ => ev_var rfl) hb9 T.c_Line T.n_groups_Line (len2 _ _ _ _) fun w2 H10 H11 H12 e10 k2 e11 h12 => ?_
      have b12 := exb_upd e10 e11 h12
      have hb12 : H12 b = some (.ins a.f_Line dx (putF "_groups" w2 (putF "_owners" w1 (putF "_form" (.str fs) [])))) := by rw [h12]; exact upd_same
      have k112 : KeptAt H12 w1 (oW o) := k19.exI hb9 b12
      have k212 : KeptAt H12 w2 (oW g) := k2.exI (e10 _ _ hb9) (exb_upd (Ex.refl _) e11 h12)
      have st12 : ∀ {v : V} {s : Sh}, Vw a b H v s → Vw a b H12 v s := fun {v s} h => Vw.st (StP.ofB b12) s v (st9 h)
      refine q_fldP (ep_mode (a := a) (n := x) (num 4 v4 m x (st12 ag.h4) hx rfl) hx2 hb12) (fun _ _ => ev_var rfl) hb12 T.c_Line T.n_must_Line (len3 _ _ _ _ _ _) fun v3 H13 H14 H15 e13 m1 e14 h15 => ?_
      obtain ⟨m1, rfl, nm1, mm1⟩ := m1
      have b15 := exb_upd e13 e14 h15
      have hb15 : H15 b = some (.ins a.f_Line dx (putF "_must" (.ref m1) (putF "_groups" w2 (putF "_owners" w1 (putF "_form" (.str fs) []))))) := by rw [h15]; exact upd_same
      have k115 : KeptAt H15 w1 (oW o) := k112.exI hb12 b15
      have k215 : KeptAt H15 w2 (oW g) := k212.exI hb12 b15
      have m115 : ModeAt a H15 m1 x := mm1.exN nm1 (exb_upd (Ex.refl _) e14 h15)
      have st15 : ∀ {v : V} {s : Sh}, Vw a b H v s → Vw a b H15 v s := fun {v s} h => Vw.st (StP.ofB b15) s v (st12 h)
      refine s_fldP (ep_mode (a := a) (n := y) (num 5 v5 n y (st15 ag.h5) hy rfl) hy2 hb15) (fun _ _ => ev_var rfl) hb15 T.c_Line T.n_never_Line (len4 _ _ _ _ _ _ _ _) fun v4 H16 H17 H18 e16 m2 e17 h18 => ?_
      obtain ⟨m2, rfl, nm2, mm2⟩ := m2
      have b18 := exb_upd e16 e17 h18
      have el : lnOf f o g m n = ⟨fs, oW o, oW g, x, y⟩ := by
        unfold lnOf
        rw [efs, hx, hy]
        rfl
      rw [el] at good
      exact good H18 ((ExB.of e1).trans (e6.trans (b9.trans (b12.trans (b15.trans b18))))) ⟨dx, w1, w2, m1, m2, by rw [h18]; exact upd_same, k115.exI hb15 b18, k215.exI hb15 b18, m115.exN nm1 b18, mm2.exN nm2 (exb_upd (Ex.refl _) e17 h18)⟩
end
end KP
set_option Elab.async false
set_option linter.all false
set_option maxRecDepth 100000
set_option maxHeartbeats 4000000
namespace KP
open PySem PySem.Spec PyProof.Rows L2 Evl KF
local macro_rules | `(tactic| walk_at "ev") => `(tactic| repeat' (first | exact ev_c | exact ev_var rfl | exact rv_I0 | refine' rv_I ?_ | refine' rv_eq ?_ | refine' rv_ne ?_ | refine' ev_op ?_ ?_ ?_ | exact ea_nil | refine' ea_cons ?_ ?_ | refine' et_test ?_ | refine' et_B ?_ | refine' et_not ?_ | refine' ev_notV ?_))

open PySem
/-! ### lines compared -/
def NamesOk (o : Option (List Str)) : Prop := ∀ xs, o = some xs → xs.length ≤ 2 ∧ ∀ s ∈ xs, nmS s = true
structure LnOk (L : Ln) : Prop where
  n1 : NamesOk L.o1
  n2 : NamesOk L.o2
  form : L.form = "file" ∨ L.form = "folder"
  must : L.must < 512
  never : L.never < 512
theorem nmS_ok {s : Str} (h : nmS s = true) : PyData.strOk s = true := by
  unfold nmS at h
  rw [Bool.and_eq_true] at h
  have all := List.all_eq_true.mp h.2
  unfold PyData.strOk
  rw [Array.all_eq_true]
  intro i hi
  have hm : s.cps[i] ∈ s.cps.toList := by simp
  have hx := of_decide_eq_true (all _ hm)
  have key : ∀ c ∈ lettersS.cps.toList, c < 1114112 := by decide +kernel
  exact decide_eq_true (key _ hx)
def eqO : Option (List Str) → Option (List Str) → Bool
  | none, none => true
  | some a, some b => a.isPerm b
  | _, _ => false
def eqLn (L M : Ln) : Bool := decide (L.form = M.form) && (eqO L.o1 M.o1 && (eqO L.o2 M.o2 && (decide (L.must = M.must) && decide (L.never = M.never))))
/-- the data of names kept -/
theorem kept_dp {K : PySem.W.Frag} {H : Hp} {v1 v2 : V} {o1 o2 : Option (List Str)} (k1 : KeptAt H v1 o1) (k2 : KeptAt H v2 o2) (n1 : NamesOk o1) (n2 : NamesOk o2) : ∃ d e, Dp K H v1 d ∧ Dp K H v2 e ∧ SeqAt.shaped d = true ∧ SeqAt.shaped e = true ∧ PyData.eqv d e = eqO o1 o2 := by
  have one : ∀ {ys xs : List Str}, ys.Perm xs → (∀ s ∈ xs, nmS s = true) → ∀ s ∈ ys, PyData.strOk s = true := fun p h s hs => nmS_ok (h s (p.mem_iff.mp hs))
  cases o1 with
  | none =>
    obtain rfl : v1 = .non := k1
    cases o2 with
    | none =>
      obtain rfl : v2 = .non := k2
      exact ⟨_, _, .non, .non, by decide, by decide, by decide⟩
    | some ys =>
      obtain ⟨l, zs, rfl, hp, hs, hl⟩ := k2
      have ok := KV.shaped_strs (one hp (n2 _ rfl).2)
      exact ⟨_, _, .non, .tup (st_of hl) (KV.dp_strs zs), by decide, ok.1, by simp [PyData.eqv, eqO]⟩
  | some xs =>
    obtain ⟨m, ws, rfl, hp1, hs1, hm⟩ := k1
    have ok1 := KV.shaped_strs (one hp1 (n1 _ rfl).2)
    cases o2 with
    | none =>
      obtain rfl : v2 = .non := k2
      exact ⟨_, _, .tup (st_of hm) (KV.dp_strs ws), .non, ok1.1, by decide, by simp [PyData.eqv, eqO]⟩
    | some ys =>
      obtain ⟨l, zs, rfl, hp, hs, hl⟩ := k2
      have ok := KV.shaped_strs (one hp (n2 _ rfl).2)
      refine ⟨_, _, .tup (st_of hm) (KV.dp_strs ws), .tup (st_of hl) (KV.dp_strs zs), ok1.1, ok.1, ?_⟩
      show PyData.eqvAll _ _ = xs.isPerm ys
      rw [KV.eqv_strs, Bool.eq_iff_iff, List.isPerm_iff, decide_eq_true_iff]
      exact KV.sorted_eq_iff hs1 hp1 hs hp
section
variable {K : PySem.W.Frag} {σ : L2.St} {H : Hp} {te ta tb : TE} {a : Ads} {E : XK}
theorem rv_eqO {v1 v2 : V} {o1 o2 : Option (List Str)} (k1 : KeptAt H v1 o1) (k2 : KeptAt H v2 o2) (n1 : NamesOk o1) (n2 : NamesOk o2) : RV (rEqD K) v1 v2 H (.bl (eqO o1 o2)) := fun H1 e Q q => by
  obtain ⟨d, f, hd, hf, sd, sf, ev⟩ := kept_dp (K := K) (k1.mono e) (k2.mono e) n1 n2
  refine ⟨d, f, hd, hf, sd, sf, ?_⟩
  rw [ev]
  exact q H1 (Ex.refl H1)
theorem rv_eqM {w : World} {mg : Str → Option Value} (T : Txt w K mg a) {p q : Addr} {m n : Nat} (h1 : ModeAt a H p m) (h2 : ModeAt a H q n) : RV (KD.rOwnB K a.f_Mode (fun vs H Q E => spMEq a (vs ++ []) H Q E) E) (.ref p) (.ref q) H (.bl (decide (m = n))) := fun H1 e Q k => by
  obtain ⟨dx, hp⟩ := h1.mono e
  exact ⟨p, dx, _, _, rfl, hp, tyx_mode T (h2.mono e), T.nf_Mode, p, q, m, n, rfl, h1.mono e, h2.mono e, fun H' e' => k H' e'⟩
end
/-- == of a line and a line, or a tuple -/
def EqCase (a : Ads) (H : Hp) (L : Ln) (y : V) (r : Bool) : Prop := (∃ (c : Addr) (M : Ln), y = .ref c ∧ LineAt a H c M ∧ LnOk M ∧ r = eqLn L M) ∨ ∃ (c : Addr) (xs : List V), y = .ref c ∧ H c = some (.tup xs) ∧ r = false
theorem EqCase.mono {a : Ads} {H H' : Hp} {L : Ln} {y : V} {r : Bool} (h : EqCase a H L y r) (e : Ex H H') : EqCase a H' L y r := h.imp (fun ⟨c, M, h1, h2, h3⟩ => ⟨c, M, h1, h2.mono e, h3⟩) fun ⟨c, xs, h1, h2, h3⟩ => ⟨c, xs, h1, e _ _ h2, h3⟩
def spLEq (a : Ads) : Sp := fun vs H Q _ => ∃ (b : Addr) (L : Ln) (y : V) (r : Bool), vs = [.ref b, y] ∧ LineAt a H b L ∧ LnOk L ∧ EqCase a H L y r ∧ ∀ H', Ex H H' → Q (.bl r) H'
section
variable {P : Program} {w : World} {K : PySem.W.Frag} {mg : Str → Option Value} {base : Heap} {a : Ads}
theorem ok_Line_form (T : Txt w K mg a) : FnOk P w K mg base CX0 1 a.f_Line_form a.d_Line_form ["self"] (getSp a.f_Line "_form") := by
  obtain ⟨oc, od, kV, doc, pm, an, cdv, ct, osl, e, lk, hcd⟩ := T.fn_Line_form.ex
  rw [e]
  exact fn_getter (by rw [← e]; exact lk) hcd sc_Line_form rfl rfl T.c_Line T.n_form_Line
theorem ok_Line_owners (T : Txt w K mg a) : FnOk P w K mg base CX0 1 a.f_Line_owners a.d_Line_owners ["self"] (getSp a.f_Line "_owners") := by
  obtain ⟨oc, od, kV, doc, pm, an, cdv, ct, osl, e, lk, hcd⟩ := T.fn_Line_owners.ex
  rw [e]
  exact fn_getter (by rw [← e]; exact lk) hcd sc_Line_owners rfl rfl T.c_Line T.n_owners_Line
theorem ok_Line_groups (T : Txt w K mg a) : FnOk P w K mg base CX0 1 a.f_Line_groups a.d_Line_groups ["self"] (getSp a.f_Line "_groups") := by
  obtain ⟨oc, od, kV, doc, pm, an, cdv, ct, osl, e, lk, hcd⟩ := T.fn_Line_groups.ex
  rw [e]
  exact fn_getter (by rw [← e]; exact lk) hcd sc_Line_groups rfl rfl T.c_Line T.n_groups_Line
theorem ok_Line_must (T : Txt w K mg a) : FnOk P w K mg base CX0 1 a.f_Line_must a.d_Line_must ["self"] (getSp a.f_Line "_must") := by
  obtain ⟨oc, od, kV, doc, pm, an, cdv, ct, osl, e, lk, hcd⟩ := T.fn_Line_must.ex
  rw [e]
  exact fn_getter (by rw [← e]; exact lk) hcd sc_Line_must rfl rfl T.c_Line T.n_must_Line
theorem ok_Line_never (T : Txt w K mg a) : FnOk P w K mg base CX0 1 a.f_Line_never a.d_Line_never ["self"] (getSp a.f_Line "_never") := by
  obtain ⟨oc, od, kV, doc, pm, an, cdv, ct, osl, e, lk, hcd⟩ := T.fn_Line_never.ex
  rw [e]
  exact fn_getter (by rw [← e]; exact lk) hcd sc_Line_never rfl rfl T.c_Line T.n_never_Line
theorem tyx_line (T : Txt w K mg a) {H : Hp} {b : Addr} {L : Ln} (h : LineAt a H b L) : TyX K H (.ref b) (.ref a.f_Line) := by
  obtain ⟨dx, v1, v2, m1, m2, hb, _⟩ := h
  exact .base (.ins hb T.c_Line T.ia_Line T.in_ T.it_ T.im_Line)
theorem ok_Line_eq (T : Txt w K mg a) : FnOk P w K mg base CX0 2 a.f_LineD_eqD a.d_LineD_eqD ["self", "other"] (spLEq a) := by
  have G_Mode_eq : FnOk P w K mg base CX0 1 _ _ _ _ := ok_Mode_eq T
  refine T.fn_LineD_eqD.ok sc_LineD_eqD (fun vs H Q E h => ?_) (fun cdv A outer s H vs Q E hr h => ?_)
  · obtain ⟨_, _, _, _, rfl, _⟩ := h
    rfl
  · obtain ⟨b, L, y, r, rfl, hL, okL, cs, k⟩ := h
    have hrc : Room 1 _ := hr
    refine ⟨_, (pss_one (ps_ret (pe_and (pe_callB call_isi (by rfl) T.b_isinstance PyProof.Rows.boot_isinstance (pa_cons (pv 1) (pa_cons (pe_glob (v := .ref a.f_Line) rfl T.mg_Line rfl) pa_nil))) (pe_and (pe_cmpR op_eq (pe_fld (pv 0) rfl) (pe_fld (pv 1) rfl) (nomark _)) (pe_and (pe_cmpR (op_eqD hr.units) (pe_fld (pv 0) rfl) (pe_fld (pv 1) rfl) (nomark _)) (pe_and (pe_cmpR (op_eqD hr.units) (pe_fld (pv 0) rfl) (pe_fld (pv 1) rfl) (nomark _)) (pe_and (pe_cmpR (op_ownBE (K := K) (op := .Eq) rfl (by intro _ _; rfl) T.m_ModeD_eqD.at_ T.m_ModeD_eqD.fn (G_Mode_eq.raw (bd_ModeD_eqD T) .nil) hrc pass0) (pe_fld (pv 0) rfl) (pe_fld (pv 1) rfl) (nomark _)) (pe_one (pe_cmpR (op_ownBE (K := K) (op := .Eq) rfl (by intro _ _; rfl) T.m_ModeD_eqD.at_ T.m_ModeD_eqD.fn (G_Mode_eq.raw (bd_ModeD_eqD T) .nil) hrc pass0) (pe_fld (pv 0) rfl) (pe_fld (pv 1) rfl) (nomark _)))))))))), ?_⟩
    rcases cs with ⟨c, M, rfl, hM, okM, rfl⟩ | ⟨c, xs, rfl, hc, rfl⟩
    · obtain ⟨dx, v1, v2, m1, m2, hb, k1, k2, mm1, mm2⟩ := id hL
      obtain ⟨dy, w1, w2, n1, n2, hc, j1, j2, nn1, nn2⟩ := id hM
      refine s_ret (v := .bl (eqLn L M)) (ev_is (ev_andV (a := true) (b := eqLn L M) (ev_isi (ea_cons (ev_var rfl) (ea_cons ev_c ea_nil)) (.own _) (fun H' e' => tyx_line T (hM.mono e')) T.is_Line) fun _ =>
        ev_andV (a := decide (L.form = M.form)) (ev_is (ev_op (ev_fld (ev_var rfl) hb T.c_Line T.n_form_Line (fs_form _ _ _ _ _)) (ev_fld (ev_var rfl) hc T.c_Line T.n_form_Line (fs_form _ _ _ _ _)) (rv_eq rfl)) (congrArg V.bl (decide_eq_decide.mpr ⟨fun z => by injection z, fun z => by rw [z]⟩))) fun _ =>
        ev_andV (ev_op (ev_fld (ev_var rfl) hb T.c_Line T.n_owners_Line (fs_owners _ _ _ _ _)) (ev_fld (ev_var rfl) hc T.c_Line T.n_owners_Line (fs_owners _ _ _ _ _)) (rv_eqO k1 j1 okL.n1 okM.n1)) fun _ =>
        ev_andV (ev_op (ev_fld (ev_var rfl) hb T.c_Line T.n_groups_Line (fs_groups _ _ _ _ _)) (ev_fld (ev_var rfl) hc T.c_Line T.n_groups_Line (fs_groups _ _ _ _ _)) (rv_eqO k2 j2 okL.n2 okM.n2)) fun _ =>
        ev_andV (ev_op (ev_fld (ev_var rfl) hb T.c_Line T.n_must_Line (fs_must _ _ _ _ _)) (ev_fld (ev_var rfl) hc T.c_Line T.n_must_Line (fs_must _ _ _ _ _)) (rv_eqM T mm1 nn1)) fun _ =>
        ev_op (ev_fld (ev_var rfl) hb T.c_Line T.n_never_Line (fs_never _ _ _ _ _)) (ev_fld (ev_var rfl) hc T.c_Line T.n_never_Line (fs_never _ _ _ _ _)) (rv_eqM T mm2 nn2)) rfl) k
    · exact s_ret (v := .bl false) (ev_is (ev_andV (a := false) (b := false) (ev_isi (t := .type "tuple") (ea_cons (ev_var rfl) (ea_cons ev_c ea_nil)) (.own _) (fun H' e' => .base (.tup (e' _ _ hc))) T.nt_Line_tuple) fun z => nomatch z) rfl) k
end
end KP
set_option Elab.async false
set_option linter.all false
set_option maxRecDepth 100000
set_option maxHeartbeats 4000000
namespace KP
open PySem PySem.Spec PyProof.Rows L2 Evl KF
local macro_rules | `(tactic| walk_at "ev") => `(tactic| repeat' (first | exact ev_c | exact ev_var rfl | exact rv_I0 | refine' rv_I ?_ | refine' rv_eq ?_ | refine' rv_ne ?_ | refine' ev_op ?_ ?_ ?_ | exact ea_nil | refine' ea_cons ?_ ?_ | refine' et_test ?_ | refine' et_B ?_ | refine' et_not ?_ | refine' ev_notV ?_))

open PySem
/-! ### the pen: a list of a list of ints, how far it is, what rests -/
def PenAt (H : Hp) (p : Addr) (n : Nat) : Prop := ∃ (l : Addr) (ns : List Int) (at_ : Nat) (rest : Int), H p = some (.lst [.ref l, .int at_, .int rest]) ∧ H l = some (.lst (ns.map V.int)) ∧ l ≠ p ∧ at_ ≤ n ∧ 0 ≤ rest ∧ ns.length ≤ 63
theorem PenAt.keep {H H' : Hp} {p : Addr} {n : Nat} (h : PenAt H p n) (e : Ex H H') : PenAt H' p n := by
  obtain ⟨l, ns, at_, rest, h1, h2, h3, h4, h5, h6⟩ := h
  exact ⟨l, ns, at_, rest, e _ _ h1, e _ _ h2, h3, h4, h5, h6⟩
theorem PenAt.ex {H : Hp} {p : Addr} {n : Nat} (h : PenAt H p n) : ∃ o, H p = some o := by
  obtain ⟨l, ns, at_, rest, h1, _⟩ := h
  exact ⟨_, h1⟩
/-- all but p stay, and p's first item does -/
structure ExP (p : Addr) (H H' : Hp) : Prop where
  ex : ExB p H H'
  fix : ∀ l x y, H p = some (.lst [.ref l, x, y]) → ∃ x' y', H' p = some (.lst [.ref l, x', y'])
theorem ExP.trans {p : Addr} {H H1 H2 : Hp} (a : ExP p H H1) (b : ExP p H1 H2) : ExP p H H2 := ⟨a.ex.trans b.ex, fun l x y h => by
  obtain ⟨x1, y1, h1⟩ := a.fix l x y h
  exact b.fix l x1 y1 h1⟩
theorem ExP.of {p : Addr} {H H' : Hp} (e : Ex H H') : ExP p H H' := ⟨ExB.of e, fun l x y h => ⟨x, y, e _ _ h⟩⟩
def spPen (K : PySem.W.Frag) : Sp := fun vs H Q _ => ∃ (s : Addr) (ns : List Int), vs = [.ref s] ∧ SqL K H s (ns.map V.int) ∧ ns.length ≤ 63 ∧ ∀ p H', H p = none → Ex H H' → PenAt H' p 0 → Q (.ref p) H'
/-- a limit of draws -/
def LimM (m : Nat) : Prop := ((m : Nat) : Int).natAbs < 2 ^ 200
def spDraw : Sp := fun vs H Q _ => ∃ (p : Addr) (n m : Nat), vs = [.ref p, .int m] ∧ PenAt H p n ∧ n < 100000 ∧ 0 < m ∧ LimM m ∧ ∀ (d : Nat) H', d < m → ExP p H H' → PenAt H' p (n + 1) → Q (.int d) H'
def spPick : Sp := fun vs H Q _ => ∃ (p : Addr) (v : V) (n : Nat), vs = [.ref p, v] ∧ PenAt H p n ∧ n < 100000 ∧
  ((∃ (s : Addr) (xs : List V), v = .ref s ∧ H s = some (.lst xs) ∧ s ≠ p ∧ 0 < xs.length ∧ xs.length ≤ 1000 ∧ ∀ x H', x ∈ xs → ExP p H H' → PenAt H' p (n + 1) → Q x H') ∨
   (∃ z : Str, v = .str z ∧ 0 < z.length ∧ z.length ≤ 1000 ∧ ∀ c H', c ∈ z.cps.toList → ExP p H H' → PenAt H' p (n + 1) → Q (.str ⟨#[c]⟩) H'))
theorem lim_small {m : Nat} (h : m ≤ 1000) : LimM m := by
  unfold LimM
  rw [Int.natAbs_natCast]
  exact Nat.lt_of_le_of_lt h (by decide)
section
variable {P : Program} {w : World} {K : PySem.W.Frag} {mg : Str → Option Value} {base : Heap} {a : Ads}
theorem ok_pen (T : Txt w K mg a) : FnOk P w K mg base CX0 1 a.f__law_pen a.d__law_pen ["_law_script"] (spPen K) := by
  refine T.fn__law_pen.ok sc__law_pen (fun vs H Q E h => ?_) (fun cdv A outer s H vs Q E hr h => ?_)
  · obtain ⟨_, _, rfl, _⟩ := h
    rfl
  · obtain ⟨sc, ns, rfl, hs, hl, k⟩ := h
    refine ⟨_, (pss_one (ps_ret (pe_lst (pa_cons (pe_callTy call_list_of (by rfl) T.b_list (by decide +kernel) (pa_cons (pe_slice sl_list (pv 0) po_none (po_some pe_int)) pa_nil)) (pa_cons pe_int (pa_cons pe_int pa_nil)))))), ?_⟩
    obtain ⟨ms, e, hm⟩ := cut_ints ns none (some 63)
    refine s_retPen (el_is (el_listN (K := K) (el_sliceL (K := K) (ev_var rfl) eo_none (eo_some ev_c) hs)) e) fun l p H1 hl1 e1 h1 hp => ?_
    have lp : l ≠ p := fun z => by rw [z, hp] at h1; cases h1
    exact k p _ (fresh_back e1 hp) (e1.trans (Ex.new hp)) ⟨l, ms, 0, 0, upd_same, by rw [upd_ne lp]; exact h1, lp, Nat.le_refl 0, Int.le_refl 0, by omega⟩
theorem ok_draw (T : Txt w K mg a) : FnOk P w K mg base CX0 1 a.f__law_draw a.d__law_draw ["_law_pen_here", "_law_many"] spDraw := by
  refine T.fn__law_draw.ok sc__law_draw (fun vs H Q E h => ?_) (fun cdv A outer s H vs Q E hr h => ?_)
  · obtain ⟨_, _, _, rfl, _⟩ := h
    rfl
  · obtain ⟨p, n, m, rfl, ⟨l, ns, at_, rest, hp, hl, lp, hat, hrest, hlen⟩, hn, hm0, hm, k⟩ := h
    refine ⟨_, (pss_cons (ps_if (pt_cmpR op_gt (pe_ix ix_list (pv 0) pe_int (fun _ _ => rfl)) pe_int (nomark _)) (pss_cons (ps_set (i := 2) sc__law_draw.nd rfl (Or.inl rfl) (pe_op op_mod (pe_callTy call_int1 (by rfl) T.b_int (by decide +kernel) (pa_cons (pe_ix ix_list (pv 0) pe_int (fun _ _ => rfl)) pa_nil)) (pv 1)))
    (pss_cons (ps_asg (pe_op op_fdivW (pe_callTy call_int1 (by rfl) T.b_int (by decide +kernel) (pa_cons (pe_ix ix_list (pv 0) pe_int (fun _ _ => rfl)) pa_nil)) (pv 1)) (pg_sub (pv 0) pe_int set_list))
    (pss_one (ps_ret (pv 2))))) pss_nil)
    (pss_cons (ps_set (i := 3) sc__law_draw.nd rfl (Or.inl rfl) (pe_ix ix_list (pv 0) pe_int (fun _ _ => rfl)))
    (pss_cons (ps_asg (pe_op op_add (pv 3) pe_int) (pg_sub (pv 0) pe_int set_list))
    (pss_cons (ps_set (i := 4) sc__law_draw.nd rfl (Or.inl rfl) (pe_op op_add (pe_op op_mul pe_int (pv 3)) pe_int))
    (pss_cons (ps_if (pt_cmpR (op_neD hr.units) (pe_ix ix_list (pv 0) pe_int (fun _ _ => rfl)) (pe_lst pa_nil) (nomark _)) (pss_one (ps_set (i := 4) sc__law_draw.nd rfl (Or.inl rfl) (pe_ix ix_list (pe_ix ix_list (pv 0) pe_int (fun _ _ => rfl)) (pe_op op_mod (pe_callTy call_int1 (by rfl) T.b_int (by decide +kernel) (pa_cons (pv 3) pa_nil)) (pe_callB call_len_seq (by rfl) T.b_len PySem.boot_len (pa_cons (pe_ix ix_list (pv 0) pe_int (fun _ _ => rfl)) pa_nil))) (fun _ _ => rfl)))) pss_nil)
    (pss_cons (ps_if (PW.pt (pw_and (pt_cmpR op_lt (pv 3) (pe_callB call_len_seq (by rfl) T.b_len PySem.boot_len (pa_cons (pe_ix ix_list (pv 0) pe_int (fun _ _ => rfl)) pa_nil)) (nomark _)) (pw_and1 (pt_cmpR op_ge (pe_callB call_abs (by rfl) T.b_abs (by decide +kernel) (pa_cons (pv 4) pa_nil)) (pe_op op_pow pe_int pe_int) (nomark _))))) (pss_cons (ps_set (i := 5) sc__law_draw.nd rfl (Or.inl rfl) (pe_op op_add (pe_op op_mul pe_int (pe_op op_sub (pe_callB call_abs (by rfl) T.b_abs (by decide +kernel) (pa_cons (pv 4) pa_nil)) (pe_op op_pow pe_int pe_int))) (pe_callTy call_int1 (by rfl) T.b_int (by decide +kernel) (pa_cons (pe_cmpR op_lt (pv 4) pe_int (nomark _)) pa_nil))))
    (pss_cons (ps_asg (pe_op op_fdivW (pe_callTy call_int1 (by rfl) T.b_int (by decide +kernel) (pa_cons (pv 5) pa_nil)) (pv 1)) (pg_sub (pv 0) pe_int set_list))
    (pss_one (ps_ret (pe_op op_mod (pe_callTy call_int1 (by rfl) T.b_int (by decide +kernel) (pa_cons (pv 5) pa_nil)) (pv 1)))))) pss_nil)
    (pss_cons (ps_set (i := 6) sc__law_draw.nd rfl (Or.inl rfl) (pe_op op_mod (pe_callTy call_int1 (by rfl) T.b_int (by decide +kernel) (pa_cons (pe_op op_pow (pe_op op_add (pe_op op_add (pe_op op_mod (pe_callTy call_int1 (by rfl) T.b_int (by decide +kernel) (pa_cons (pv 4) pa_nil)) pe_int) (pe_op op_mul pe_int (pv 3))) pe_int) pe_int) pa_nil)) pe_int))
    (pss_cons (ps_set (i := 6) sc__law_draw.nd rfl (Or.inl rfl) (pe_op op_mod (pe_callTy call_int1 (by rfl) T.b_int (by decide +kernel) (pa_cons (pe_op op_pow (pe_op op_add (pe_op op_add (pe_op op_mul (pv 6) (pe_op op_add (pe_op op_mul pe_int (pv 3)) pe_int)) (pe_op op_mul (pe_op op_mul pe_int (pv 3)) (pv 3))) pe_int) pe_int) pa_nil)) pe_int))
    (pss_one (ps_ret (pe_op op_mod (pe_callTy call_int1 (by rfl) T.b_int (by decide +kernel) (pa_cons (pe_op op_fdiv (pv 6) pe_int) pa_nil)) (pv 1)))))))))))), ?_⟩
    have fin : ∀ (H1 H4 : Hp) (x r : Int) (b : Nat), ExB p H H1 → b ≤ n + 1 → 0 ≤ r → Ex (upd H1 p (.lst [.ref l, .int b, .int r])) H4 → 0 ≤ x → x < m → Q (.int x) H4 := fun H1 H4 x r b e1 hb hr0 e4 h0 h1 => by
      have ex : x = (x.toNat : Nat) := by omega
      rw [ex]
      refine k x.toNat _ (by omega) ⟨fun c o hc ne => e4 _ _ (by rw [upd_ne ne]; exact e1 _ _ hc ne), fun l' x' y' q => by
        rw [hp] at q
        cases q
        exact ⟨_, _, e4 _ _ upd_same⟩⟩ ⟨l, ns, b, r, e4 _ _ upd_same, e4 _ _ (by rw [upd_ne lp]; exact e1 _ _ hl lp), lp, hb, hr0, hlen⟩
    have hm1 : (0 : Int) < (m : Int) := by omega
    -- if pen[2] > 0
    refine q_when (b := decide (0 < rest)) (et_test (ev_op (ev_op (ev_var rfl) ev_c (rv_ixL (sq_of hp) rfl)) ev_c rv_I0)) (fun hb H1 e1 => ?_) (fun hb H1 e1 => ?_)
    · have hp1 := e1 _ _ hp
      refine q_asg (v := .int (rest % m)) (ev_op (ev_int (ev_op (ev_var rfl) ev_c (rv_ixL (sq_of hp1) rfl))) (ev_var rfl) (rv_I (by omega))) fun H2 e2 => ?_
      have hp2 := e2 _ _ hp1
      refine q_setL (j := 2) hp2 (v := .int (rest / m)) (ev_op (ev_int (ev_op (ev_var rfl) ev_c (rv_ixL (sq_of hp2) rfl))) (ev_var rfl) (rv_I (wide_div (b := 200) hm1 hm (by decide) (by decide)))) (ev_var rfl) ev_c (by show 2 < 3; decide) fun H3 e3 => ?_
      refine s_ret (v := .int (rest % m)) (ev_var rfl) fun H4 e4 => ?_
      exact fin H3 H4 _ _ _ (ExB.of ((e1.trans e2).trans e3)) (Nat.le_succ_of_le hat) (Int.ediv_nonneg hrest (by omega)) e4 (Int.emod_nonneg _ (by omega)) (Int.emod_lt_of_pos _ hm1)
    · have hr0 : rest = 0 := by have := of_decide_eq_false hb; omega
      have hp1 := e1 _ _ hp
      refine q_asg (v := .int at_) (ev_op (ev_var rfl) ev_c (rv_ixL (sq_of hp1) rfl)) fun H2 e2 => ?_
      have hp2 := e2 _ _ hp1
      refine q_setL (j := 1) hp2 (v := .int (at_ + 1)) (by walk_at "ev") (ev_var rfl) ev_c (by show 1 < 3; decide) fun H3 e3 => ?_
      have e03 : Ex H H3 := (e1.trans e2).trans e3
      have hp3 : (upd H3 p (.lst [.ref l, .int (at_ + 1), .int rest])) p = some (.lst [.ref l, .int (at_ + 1), .int rest]) := upd_same
      have hl3 : (upd H3 p (.lst [.ref l, .int (at_ + 1), .int rest])) l = some (.lst (ns.map V.int)) := by rw [upd_ne lp]; exact e03 _ _ hl
      have b03 : ExB p H (upd H3 p (.lst [.ref l, .int (at_ + 1), .int rest])) := fun c o hc ne => by rw [upd_ne ne]; exact e03 _ _ hc
      generalize eK : (upd H3 p (.lst [.ref l, .int (at_ + 1), .int rest])) = K3 at hp3 hl3 b03
      show tSeq _ _ _ _ (upd H3 p (.lst [.ref l, .int (at_ + 1), .int rest]))
      rw [eK]
      -- cell
      refine q_asg (v := .int (50377 * at_ + 401)) (by walk_at "ev"; exact .inl ⟨by decide, by decide⟩) fun H4 e4 => ?_
      have hp4 := e4 _ _ hp3
      have hl4 := e4 _ _ hl3
      obtain ⟨cell, hc1, hc2⟩ : ∃ cell : Int, (ns ≠ [] → atI (ns.map V.int) ((at_ : Int) % ((ns.map V.int).length : Nat)) = some (.int cell)) ∧ (ns = [] → cell = 50377 * at_ + 401) := by
        by_cases hns : ns = []
        · exact ⟨50377 * at_ + 401, fun z => absurd hns z, fun _ => rfl⟩
        · have hpos : 0 < ns.length := List.length_pos_iff.mpr hns
          have hj : at_ % ns.length < ns.length := Nat.mod_lt _ hpos
          refine ⟨ns[at_ % ns.length], fun _ => ?_, fun z => absurd z hns⟩
          rw [List.length_map, show ((at_ : Int) % (ns.length : Nat)) = ((at_ % ns.length : Nat) : Int) by omega]
          exact atI_nat (by simp [hj])
      have hlenZ : ns ≠ [] → (0 : Int) < ((ns.map V.int).length : Nat) := fun hns => by
        have hpos : 0 < ns.length := List.length_pos_iff.mpr hns
        rw [List.length_map]; omega
      refine q_ifAsg (b := !PyData.eqv (.list (ns.map PyData.int)) (.list [])) (v := .int cell) (et_test (ev_opL (ev_op (ev_var rfl) ev_c (rv_ixL (sq_of hp4) rfl)) (el_lst ea_nil (by decide)) fun q H5 hq e5 => rv_neE (e5 _ _ hl4) hq)) (fun hb => ?_) (fun hb => ?_) fun H5 e5 => ?_
      · have hns : ns ≠ [] := fun z => by rw [eqv_nil, z] at hb; cases hb
        refine ev_op (ev_op (ev_var rfl) ev_c (rv_ixL (sq_of hp4) rfl)) (ev_op (ev_int (ev_var rfl)) (ev_lenS (ev_op (ev_var rfl) ev_c (rv_ixL (sq_of hp4) rfl)) (sq_of hl4)) (rv_I (hlenZ hns))) (rv_ixL (sq_of hl4) (hc1 hns))
      · have hns : ns = [] := by
          rw [eqv_nil] at hb
          simpa using hb
        rw [hc2 hns]
        rfl
      have hp5 := e5 _ _ hp4
      have hl5 := e5 _ _ hl4
      -- if at < len(pen[0]) and abs(cell) >= 10 ** 18
      refine q_when (b := decide ((at_ : Int) < ((ns.map V.int).length : Nat)) && decide ((10 : Int) ^ (18 : Int).toNat ≤ (if cell < 0 then -cell else cell))) (et_and (et_test (ev_op (ev_var rfl) (ev_lenS (ev_op (ev_var rfl) ev_c (rv_ixL (sq_of hp5) rfl)) (sq_of hl5)) rv_I0)) fun _ => et_test (ev_op (ev_abs (ev_var rfl)) (ev_op ev_c ev_c (rv_I ⟨by decide, by decide, by decide⟩)) rv_I0)) (fun hb H6 e6 => ?_) (fun hb H6 e6 => ?_)
      · have hge := of_decide_eq_true (Bool.and_eq_true_iff.mp hb).2
        have hp6 := e6 _ _ hp5
        refine q_asg (v := .int (2 * ((if cell < 0 then -cell else cell) - 10 ^ (18 : Int).toNat) + (if decide (cell < 0) = true then 1 else 0))) (ev_op (ev_op ev_c (ev_op (ev_abs (ev_var rfl)) (ev_op ev_c ev_c (rv_I ⟨by decide, by decide, by decide⟩)) rv_I0) (rv_I (.inl ⟨by decide, by decide⟩))) (ev_intB (ev_op (ev_var rfl) ev_c rv_I0)) rv_I0) fun H7 e7 => ?_
        have hg0 : 0 ≤ 2 * ((if cell < 0 then -cell else cell) - 10 ^ (18 : Int).toNat) + (if decide (cell < 0) = true then 1 else 0) := by
          have : (0 : Int) ≤ (if decide (cell < 0) = true then 1 else 0) := by split <;> decide
          omega
        generalize 2 * ((if cell < 0 then -cell else cell) - 10 ^ (18 : Int).toNat) + (if decide (cell < 0) = true then 1 else 0) = great at hg0
        refine q_setL (j := 2) (e7 _ _ hp6) (v := .int (great / m)) (ev_op (ev_int (ev_var rfl)) (ev_var rfl) (rv_I (wide_div (b := 200) hm1 hm (by decide) (by decide)))) (ev_var rfl) ev_c (by show 2 < 3; decide) fun H8 e8 => ?_
        refine s_ret (v := .int (great % m)) (ev_op (ev_int (ev_var rfl)) (ev_var rfl) (rv_I hm1)) fun H9 e9 => ?_
        exact fin H8 H9 _ (great / m) (at_ + 1) (b03.trans (ExB.of ((((e4.trans e5).trans e6).trans e7).trans e8))) (by omega) (Int.ediv_nonneg hg0 (by omega)) e9 (Int.emod_nonneg _ (by omega)) (Int.emod_lt_of_pos _ hm1)
      · have hat5 : (at_ : Int) ≤ 100000 := by omega
        have hu0 : 0 ≤ cell % 2147483549 + 60413 * at_ + 401 ∧ cell % 2147483549 + 60413 * at_ + 401 < 18446744073709551616 := by
          have h1 := Int.emod_nonneg cell (show (2147483549 : Int) ≠ 0 by decide)
          have h2 := Int.emod_lt_of_pos cell (show (0 : Int) < 2147483549 by decide)
          omega
        refine q_asg (v := .int ((cell % 2147483549 + 60413 * at_ + 401) ^ (5 : Int).toNat % 2147483629)) (ev_op (ev_int (ev_op (ev_op (ev_op (ev_op (ev_int (ev_var rfl)) ev_c (rv_I (by decide))) (ev_op ev_c (ev_var rfl) (rv_I (.inl ⟨by decide, by decide⟩))) rv_I0) ev_c rv_I0) ev_c (rv_I ⟨by decide, by decide, by omega⟩))) ev_c (rv_I (by decide))) fun H7 e7 => ?_
        have hx0 := Int.emod_nonneg ((cell % 2147483549 + 60413 * at_ + 401) ^ (5 : Int).toNat) (show (2147483629 : Int) ≠ 0 by decide)
        have hx1 := Int.emod_lt_of_pos ((cell % 2147483549 + 60413 * at_ + 401) ^ (5 : Int).toNat) (show (0 : Int) < 2147483629 by decide)
        generalize (cell % 2147483549 + 60413 * at_ + 401) ^ (5 : Int).toNat % 2147483629 = mx at hx0 hx1
        obtain ⟨b1, b2⟩ := mul_bd hx0 (Int.le_of_lt hx1) (y := 2 * at_ + 67) (B := 300000) (by omega) (by omega)
        obtain ⟨b3, b4⟩ := mul_bd (x := 70373 * at_) (A := 8000000000) (y := at_) (B := 100000) (by omega) (by omega) (by omega) hat5
        refine q_asg (v := .int ((mx * (2 * at_ + 67) + 70373 * at_ * at_ + 17) ^ (3 : Int).toNat % 2147483587)) (ev_op (ev_int (ev_op (ev_op (ev_op (ev_op (ev_var rfl) (ev_op (ev_op ev_c (ev_var rfl) (rv_I (.inl ⟨by decide, by decide⟩))) ev_c rv_I0) (rv_I (.inl ⟨by omega, by omega⟩))) (ev_op (ev_op ev_c (ev_var rfl) (rv_I (.inl ⟨by decide, by decide⟩))) (ev_var rfl) (rv_I (.inl ⟨by omega, by omega⟩))) rv_I0) ev_c rv_I0) ev_c (rv_I ⟨by decide, by decide, by omega⟩))) ev_c (rv_I (by decide))) fun H8 e8 => ?_
        refine s_ret (v := .int (((mx * (2 * at_ + 67) + 70373 * at_ * at_ + 17) ^ (3 : Int).toNat % 2147483587) / 32 % m)) (ev_op (ev_int (ev_op (ev_var rfl) ev_c (rv_I ⟨by decide, by decide⟩))) (ev_var rfl) (rv_I hm1)) fun H9 e9 => ?_
        refine fin H3 H9 _ rest (at_ + 1) (ExB.of e03) (by omega) hrest ?_ (Int.emod_nonneg _ (by omega)) (Int.emod_lt_of_pos _ hm1)
        intro c o hc
        exact e9 _ _ (e8 _ _ (e7 _ _ (e6 _ _ (e5 _ _ (e4 _ _ (by rw [← eK]; exact hc))))))
theorem ok_pick (T : Txt w K mg a) : FnOk P w K mg base CX0 2 a.f__law_pick a.d__law_pick ["_law_pen_here", "_law_some"] spPick := by
  have G__law_draw : FnOk P w K mg base CX0 1 _ _ _ _ := ok_draw T
  refine T.fn__law_pick.ok sc__law_pick (fun vs H Q E h => ?_) (fun cdv A outer s H vs Q E hr h => ?_)
  · obtain ⟨_, _, _, rfl, _⟩ := h
    rfl
  · obtain ⟨p, v, n, rfl, hp, hn, h⟩ := h
    have hrc : Room 1 _ := hr
    refine ⟨_, (pss_one (ps_ret (pe_ix ix_seq (pv 1) (pe_call G__law_draw hrc rfl T.mg__law_draw T.fn__law_draw.kp (bd__law_draw T) .nil pass0 (pa_cons (pv 0) (pa_cons (pe_callB call_len (by rfl) T.b_len PySem.boot_len (pa_cons (pv 1) pa_nil)) pa_nil))) (fun _ _ => rfl)))), ?_⟩
    rcases h with ⟨s, xs, rfl, hs, sp, h0, h1, k⟩ | ⟨z, rfl, h0, h1, k⟩
    · refine ⟨.ref s, rfl, .ref p, rfl, .ref s, rfl, .ref s, xs.length, rfl, .inl ⟨xs, sq_of hs, rfl⟩, p, n, xs.length, rfl, hp, hn, h0, lim_small h1, fun d H1 hd e1 hp1 => ?_⟩
      exact .inl ⟨s, xs, d, xs[d], rfl, rfl, sq_of (e1.ex _ _ hs sp), atI_nat (by simp [hd]), k _ _ (List.getElem_mem hd) e1 hp1⟩
    · have hz : z.length ≤ sizeLine := sz_of (by omega)
      have hl : z.cps.toList.length = z.length := Array.length_toList
      refine ⟨.str z, rfl, .ref p, rfl, .str z, rfl, .str z, z.length, rfl, ⟨hz, rfl⟩, p, n, z.length, rfl, hp, hn, h0, lim_small h1, fun d H1 hd e1 hp1 => ?_⟩
      have hd2 : d < z.cps.toList.length := by omega
      exact .inr (.inr ⟨z, d, z.cps.toList[d], rfl, rfl, hz, atI_nat (by simp [hd2]), k _ _ (List.getElem_mem hd2) e1 hp1⟩)
end
/-- the pen, its cells at l -/
def PenL (H : Hp) (p l : Addr) (n : Nat) : Prop := ∃ (ns : List Int) (at_ : Nat) (rest : Int), H p = some (.lst [.ref l, .int at_, .int rest]) ∧ H l = some (.lst (ns.map V.int)) ∧ l ≠ p ∧ at_ ≤ n ∧ 0 ≤ rest ∧ ns.length ≤ 63
section
variable {H H' : Hp} {p l d : Addr} {n m : Nat}
theorem PenL.pen (h : PenL H p l n) : PenAt H p n := let ⟨ns, a, r, q⟩ := h; ⟨l, ns, a, r, q⟩
theorem PenAt.fixL (h : PenAt H p n) : ∃ l, PenL H p l n := let ⟨l, ns, a, r, q⟩ := h; ⟨l, ns, a, r, q⟩
theorem PenL.keep (h : PenL H p l n) (e : Ex H H') : PenL H' p l n := let ⟨ns, a, r, h1, h2, q⟩ := h; ⟨ns, a, r, e _ _ h1, e _ _ h2, q⟩
theorem PenL.upd {o : HO} (h : PenL H p l n) (n1 : p ≠ d) (n2 : l ≠ d) : PenL (upd H d o) p l n := let ⟨ns, a, r, h1, h2, q⟩ := h; ⟨ns, a, r, by rw [upd_ne n1]; exact h1, by rw [upd_ne n2]; exact h2, q⟩
theorem PenL.ne (h : PenL H p l n) (z : H d = none) : p ≠ d ∧ l ≠ d := let ⟨_, _, _, h1, h2, _⟩ := h; ⟨ne_of_none h1 z, ne_of_none h2 z⟩
theorem PenL.next (h : PenL H p l n) (b : PenAt H' p m) (c : ExP p H H') : PenL H' p l m := by
  obtain ⟨ns, a, r, h1, _⟩ := h
  obtain ⟨x', y', e⟩ := c.fix l _ _ h1
  obtain ⟨l2, ns2, a2, r2, f1, q⟩ := b
  rw [f1] at e
  cases e
  exact ⟨ns2, a2, r2, f1, q⟩
theorem PenL.more (h : PenL H p l n) (k : n ≤ m) : PenL H p l m := let ⟨ns, a, r, h1, h2, h3, h4, h5⟩ := h; ⟨ns, a, r, h1, h2, h3, Nat.le_trans h4 k, h5⟩
theorem PenAt.ne_tup (h : PenAt H p n) {q : Addr} {xs : List V} (hq : H q = some (.tup xs)) : q ≠ p := let ⟨_, _, _, _, h1, _⟩ := h; ne_of hq h1 fun z => nomatch z
theorem PenAt.ne_new (h : PenAt H p n) {q : Addr} (hq : H q = none) : q ≠ p := let ⟨_, _, _, _, h1, _⟩ := h; (ne_of_none h1 hq).symm
end

theorem PenAt.more {H : Hp} {p : Addr} {n m : Nat} (h : PenAt H p n) (k : n ≤ m) : PenAt H p m := let ⟨l, ns, a, r, h1, h2, h3, h4, h5⟩ := h; ⟨l, ns, a, r, h1, h2, h3, Nat.le_trans h4 k, h5⟩
section
variable {K : PySem.W.Frag} {σ : L2.St} {H : Hp} {t1 t2 ta tb te : TE} {D : Ends} {tz : TS} {i j n : Nat} {p lc : Addr} {E : XK} {Q : VK} {x : V} {r : R2}
theorem draw_r (m : Nat) (hi : σ[i]? = some (some (.ref p))) (hm : Ev te σ H (.int (m : Nat))) (pen : PenL H p lc n) (hn : n < 100000) (h0 : 0 < m) (hl : m ≤ 1000) (k : ∀ d H', d < m → ExP p H H' → PenL H' p lc (n + 1) → Q (.int (d : Nat)) H') : tCall spDraw [] E (tCons (tVar i) (tCons te tNil)) σ H Q :=
  ⟨.ref p, hi, hm H (Ex.refl H) _ fun H1 e1 => ⟨p, n, m, rfl, (pen.keep e1).pen, hn, h0, lim_small hl, fun d H' hd e b => k d H' hd ((ExP.of e1).trans e) ((pen.keep e1).next b e)⟩⟩
theorem pick_raw (hi : σ[i]? = some (some (.ref p))) (h : te σ H fun v H1 => spPick [.ref p, v] H1 Q E) : tCall spPick [] E (tCons (tVar i) (tCons te tNil)) σ H Q := ⟨.ref p, hi, h⟩
/-- a pick out of a list -/
theorem pk_list {s : Addr} {xs : List V} (pen : PenL H p lc n) (hn : n < 100000) (hs : H s = some (.lst xs)) (sp : s ≠ p) (h0 : 0 < xs.length) (h1 : xs.length ≤ 1000) (k : ∀ x H', x ∈ xs → ExP p H H' → PenL H' p lc (n + 1) → Q x H') : spPick [.ref p, .ref s] H Q E :=
  ⟨p, _, n, rfl, pen.pen, hn, .inl ⟨s, xs, rfl, hs, sp, h0, h1, fun x H' hx e b => k x H' hx e (pen.next b e)⟩⟩
theorem pk_str {z : Str} (pen : PenL H p lc n) (hn : n < 100000) (h0 : 0 < z.length) (h1 : z.length ≤ 1000) (k : ∀ c H', c ∈ z.cps.toList → ExP p H H' → PenL H' p lc (n + 1) → Q (.str ⟨#[c]⟩) H') : spPick [.ref p, .str z] H Q E :=
  ⟨p, _, n, rfl, pen.pen, hn, .inr ⟨z, rfl, h0, h1, fun x H' hx e b => k x H' hx e (pen.next b e)⟩⟩
theorem ev_raw (h : Ev te σ H x) (k : ∀ H1, Ex H H1 → Q x H1) : te σ H Q := h H (Ex.refl H) Q k
theorem el_raw {xs : List V} (h : EvL te σ H xs) (k : ∀ l H1, H l = none → Ex H H1 → H1 l = some (.lst xs) → Q (.ref l) H1) : te σ H Q := h H (Ex.refl H) Q k
theorem PenL.neL {l : Addr} {xs : List V} (pen : PenL H p lc n) (hl : H l = some (.lst xs)) (ne : ∀ u v w, xs ≠ [u, v, w] ∨ (∀ q, u ≠ .ref q)) : l ≠ p := by
  obtain ⟨ns, at_, rest, h1, _⟩ := pen
  intro z
  rw [z, h1] at hl
  have e := Option.some.inj hl
  injection e with e
  rcases ne (.ref lc) (.int at_) (.int rest) with h | h
  · exact h e.symm
  · exact h lc rfl
end
/-- append, the new item raw -/
theorem s_app1 {K : PySem.W.Frag} {σ : L2.St} {H : Hp} {te : TE} {D : Ends} {j : Nat} {l : Addr} {ys : List V} (hj : σ[j]? = some (some (.ref l))) (hl : H l = some (.lst ys)) (h : te σ H fun v H2 => ∃ l' xs y, V.ref l = .ref l' ∧ [v] = [y] ∧ H2 l' = some (.lst xs) ∧ xs.length < sizeLine ∧ D.nx σ (upd H2 l' (.lst (xs ++ [y])))) : tDrop (tBM K "list" rAppend (tVar j) (tCons te tNil)) D σ H :=
  ⟨.ref l, hj, Or.inl ⟨rfl, ys, sq_of hl⟩, h⟩
theorem q_app1 {K : PySem.W.Frag} {σ : L2.St} {H : Hp} {te : TE} {D : Ends} {tz : TS} {j : Nat} {l : Addr} {ys : List V} (hj : σ[j]? = some (some (.ref l))) (hl : H l = some (.lst ys)) (h : te σ H fun v H2 => ∃ l' xs y, V.ref l = .ref l' ∧ [v] = [y] ∧ H2 l' = some (.lst xs) ∧ xs.length < sizeLine ∧ tz D σ (upd H2 l' (.lst (xs ++ [y])))) : tSeq (tDrop (tBM K "list" rAppend (tVar j) (tCons te tNil))) tz D σ H :=
  ⟨.ref l, hj, Or.inl ⟨rfl, ys, sq_of hl⟩, h⟩
theorem q_parD {σ : L2.St} {H : Hp} {t1 t2 : TE} {D : Ends} {tz : TS} {i j : Nat} (h : t1 σ H fun v H1 => t2 σ H1 fun w H2 => ∃ v' w', [v, w] = [v', w'] ∧ tz D ((σ.set i (some v')).set j (some w')) H2) : tSeq (tPar i j (tCons t1 (tCons t2 tNil))) tz D σ H := h
theorem q_asgD {σ : L2.St} {H : Hp} {te : TE} {D : Ends} {tz : TS} {i : Nat} (h : te σ H fun v H1 => tz D (σ.set i (some v)) H1) : tSeq (tAsg te (gName i)) tz D σ H := h
end KP
set_option Elab.async false
set_option linter.all false
set_option maxRecDepth 100000
set_option maxHeartbeats 4000000
namespace KP
open PySem PySem.Spec PyProof.Rows L2 Evl KF
local macro_rules | `(tactic| walk_at "ev") => `(tactic| repeat' (first | exact ev_c | exact ev_var rfl | exact rv_I0 | refine' rv_I ?_ | refine' rv_eq ?_ | refine' rv_ne ?_ | refine' ev_op ?_ ?_ ?_ | exact ea_nil | refine' ea_cons ?_ ?_ | refine' et_test ?_ | refine' et_B ?_ | refine' et_not ?_ | refine' ev_notV ?_))

open PySem
/-! ### the law's names -/
/-- a name: one to eight letters -/
structure NameOk (s : Str) : Prop where
  pos : 1 ≤ s.cps.size
  le : s.cps.size ≤ 8
  all : ∀ c ∈ s.cps.toList, c ∈ lettersS.cps.toList
/-- names told: none, or one or two unlike ones -/
structure NamesG (o : Option (List Str)) : Prop where
  pos : ∀ xs, o = some xs → 1 ≤ xs.length
  le : ∀ xs, o = some xs → xs.length ≤ 2
  ok : ∀ xs, o = some xs → ∀ x ∈ xs, NameOk x
  nd : ∀ xs, o = some xs → xs.Nodup
/-- told names, as a list that stands at v, or None -/
def ToldAt (H : Hp) (v : V) (o : Option (List Str)) : Prop := match o with
  | none => v = .non
  | some xs => ∃ l, v = .ref l ∧ H l = some (.lst (xs.map V.str))
theorem ToldAt.mono {H H' : Hp} {v : V} {o : Option (List Str)} (h : ToldAt H v o) (e : Ex H H') : ToldAt H' v o := by
  cases o with
  | none => exact h
  | some xs =>
    obtain ⟨l, hv, hl⟩ := h
    exact ⟨l, hv, e _ _ hl⟩
structure LnG (L : Ln) : Prop where
  form : L.form = "file" ∨ L.form = "folder"
  n1 : NamesG L.o1
  n2 : NamesG L.o2
  must : L.must < 512
  never : L.never < 512
  apart : Builtin.bitAnd (L.must : Int) (L.never : Int) = 0

def sgS (c : Nat) : Str := ⟨#[c]⟩
theorem join_sg : ∀ cs : List Nat, (Str.join "" (cs.map sgS)).cps.toList = cs
  | [] => rfl
  | [c] => rfl
  | c :: d :: r => by
    have ih := join_sg (d :: r)
    show ((sgS c ++ ("" : Str) ++ Str.join "" ((d :: r).map sgS)).cps).toList = _
    have : (sgS c ++ ("" : Str) ++ Str.join "" ((d :: r).map sgS)).cps = #[c] ++ #[] ++ (Str.join "" ((d :: r).map sgS)).cps := rfl
    rw [this, Array.toList_append, Array.toList_append, ih]
    rfl
theorem sum_sg : ∀ cs : List Nat, ((cs.map sgS).map (·.length)).sum = cs.length
  | [] => rfl
  | c :: r => by
    have ih := sum_sg r
    simp only [List.map_cons, List.sum_cons, ih, List.length_cons]
    have : (sgS c).length = 1 := rfl
    omega
def letC (f h k : Nat) : Nat := 97 + (f + h * k) % 26
def hops : List Nat := [1, 3, 5, 7, 9, 11]
theorem letters_at : ∀ k : Nat, k < 26 → lettersS.cps.toList[k]? = some (97 + k) := by
  have h : ((List.range 26).all fun k => decide (lettersS.cps.toList[k]? = some (97 + k))) = true := by decide +kernel
  exact fun k hk => of_decide_eq_true (all_nat h k hk)
theorem letC_in (f h k : Nat) : letC f h k ∈ lettersS.cps.toList := List.mem_of_getElem? (letters_at ((f + h * k) % 26) (Nat.mod_lt _ (by decide)))
theorem letC_ne : ∀ f : Nat, f < 26 → ∀ h ∈ hops, ∀ j : Nat, j < 4 → ∀ k : Nat, k < 4 → j ≠ k → letC f h j ≠ letC f h k := by
  have h : ((List.range 26).all fun f => hops.all fun h => (List.range 4).all fun j => (List.range 4).all fun k => decide (j ≠ k → letC f h j ≠ letC f h k)) = true := by decide +kernel
  exact fun f hf h' hh j hj k hk => of_decide_eq_true (all_nat (all_nat (List.all_eq_true.mp (all_nat h f hf) h' hh) j hj) k hk)
structure StemOk (s : Str) : Prop where
  le : s.cps.size ≤ 7
  all : ∀ c ∈ s.cps.toList, c ∈ lettersS.cps.toList
def Nm (s : Str) (f h k : Nat) (x : Str) : Prop := x = sgS (letC f h k) ∨ x = s ++ sgS (letC f h k)
theorem cps_cat (s : Str) (c : Nat) : (s ++ sgS c).cps.toList = s.cps.toList ++ [c] := by
  have : (s ++ sgS c).cps = s.cps ++ #[c] := rfl
  rw [this, Array.toList_append]
theorem Nm.ok {s : Str} {f h k : Nat} {x : Str} (n : Nm s f h k x) (so : StemOk s) : NameOk x := by
  rcases n with rfl | rfl
  · exact ⟨by show 1 ≤ 1; decide, by show 1 ≤ 8; decide, fun c hc => by
      have : c = letC f h k := List.mem_singleton.mp hc
      rw [this]; exact letC_in f h k⟩
  · have e := cps_cat s (letC f h k)
    have sz : (s ++ sgS (letC f h k)).cps.size = s.cps.size + 1 := by
      have := congrArg List.length e
      simpa using this
    exact ⟨by omega, by have := so.le; omega, fun c hc => by
      rw [e] at hc
      rcases List.mem_append.mp hc with h1 | h1
      · exact so.all c h1
      · rw [List.mem_singleton.mp h1]; exact letC_in f h k⟩
theorem Nm.last {s : Str} {f h k : Nat} {x : Str} (n : Nm s f h k x) : x.cps.toList.getLast? = some (letC f h k) := by
  rcases n with rfl | rfl
  · rfl
  · rw [cps_cat, List.getLast?_append]
    rfl
theorem Nm.ne {s : Str} {f h j k : Nat} {x y : Str} (hf : f < 26) (hh : h ∈ hops) (n : Nm s f h j x) (m : Nm s f h k y) (hj : j < 4) (hk : k < 4) (ne : j ≠ k) : x ≠ y := fun z => by
  have h1 := n.last
  rw [z, m.last] at h1
  exact letC_ne f hf h hh j hj k hk ne (Option.some.inj h1).symm
/-- four unlike names -/
structure NamesL (ns : List Str) : Prop where
  len : ns.length = 4
  ok : ∀ x ∈ ns, NameOk x
  nd : ns.Nodup
theorem names_l {s : Str} {f h : Nat} {ns : List Str} (so : StemOk s) (hf : f < 26) (hh : h ∈ hops) (hl : ns.length = 4) (hn : ∀ j x, ns[j]? = some x → Nm s f h j x) : NamesL ns := by
  match ns, hl, hn with
  | [w, x, y, z], _, hn =>
    have n0 := hn 0 w rfl
    have n1 := hn 1 x rfl
    have n2 := hn 2 y rfl
    have n3 := hn 3 z rfl
    refine ⟨rfl, fun v hv => ?_, ?_⟩
    · simp only [List.mem_cons, List.not_mem_nil, or_false] at hv
      rcases hv with rfl | rfl | rfl | rfl
      · exact n0.ok so
      · exact n1.ok so
      · exact n2.ok so
      · exact n3.ok so
    · simp only [List.nodup_cons, List.mem_cons, List.not_mem_nil, or_false, not_or, not_false_eq_true, List.nodup_nil, and_true]
      exact ⟨⟨n0.ne hf hh n1 (by decide) (by decide) (by decide), n0.ne hf hh n2 (by decide) (by decide) (by decide), n0.ne hf hh n3 (by decide) (by decide) (by decide)⟩, ⟨n1.ne hf hh n2 (by decide) (by decide) (by decide), n1.ne hf hh n3 (by decide) (by decide) (by decide)⟩, n2.ne hf hh n3 (by decide) (by decide) (by decide)⟩
def spNames : Sp := fun vs H Q _ => ∃ (p lc : Addr) (n : Nat), vs = [.ref p, .int 4] ∧ PenL H p lc n ∧ n + 14 ≤ 100000 ∧ ∀ l ns H', H l = none → ExP p H H' → PenL H' p lc (n + 14) → H' l = some (.lst (ns.map V.str)) → NamesL ns → Q (.ref l) H'
section
variable {K : PySem.W.Frag} {σ : L2.St} {H : Hp} {t1 t2 ta tb te : TE} {D : Ends} {tz : TS} {i i2 j jj n k : Nat} {p lc : Addr} {E E2 : XK} {Q : VK} {x : V} {vs : List Nat} {s0 : Str}
/-- ''.join([pick(pen, letters) for k in range(draw(pen, 8))]) -/
theorem q_stem (hw : ∀ x, wipe ((wipe σ vs).set j (some x)) vs = wipe σ vs) (h0 : σ[0]? = some (some (.ref p))) (hi : ∀ x, ((wipe σ vs).set j (some x))[0]? = some (some (.ref p))) (hi2 : ∀ x, ((wipe σ vs).set j (some x))[i2]? = some (some (.str lettersS))) (pen : PenL H p lc k) (hk : k + 8 ≤ 100000)
    (q : ∀ s H', StemOk s → ExP p H H' → PenL H' p lc (k + 8) → tz D (σ.set jj (some (.str s))) H') :
    tSeq (tAsg (tM1 (fun x xs H Q => ∃ a p, ∃ ys : List Str, x = .str a ∧ xs = [.ref p] ∧ (SqL K H p (ys.map V.str) ∨ SqT K H p (ys.map V.str)) ∧ (ys.map (·.length)).sum + ys.length * a.length ≤ 16777216 ∧ Q (.str (Txt.join a ys)) H) (tC (.str ""))
      (tLc (iRng1 (tCons (tCall spDraw [] E (tCons (tVar 0) (tCons (tC (.int 8)) tNil))) tNil)) (gName j) tYes (tCall spPick [] E2 (tCons (tVar 0) (tCons (tVar i2) tNil))) vs)) (gName jj)) tz D σ H := by
  refine ⟨⟨_, rfl⟩, ?_⟩
  refine draw_r (p := p) (lc := lc) (n := k) 8 h0 ev_c pen (by omega) (by decide) (by decide) fun d H1 hd e1 pen1 => ⟨(d : Nat), rfl, by omega, by omega, fun Dl hD => ?_⟩
  obtain ⟨np, nl⟩ := pen1.ne hD
  refine lc_range (lo := 0) (n := d) (fun i H' => ∃ cs : List Nat, cs.length = i ∧ (∀ c ∈ cs, c ∈ lettersS.cps.toList) ∧ ExP p H H' ∧ PenL H' p lc (k + 1 + i) ∧ H' Dl = some (.lst ((cs.map sgS).map V.str))) ⟨[], rfl, (fun _ z => nomatch z), e1.trans (ExP.of (Ex.new hD)), pen1.keep (Ex.new hD), upd_same⟩ (fun t H' hi' qq => ⟨hw _, (et_yes : EvT tYes _ H' true) H' (Ex.refl _) _ fun H3 e3 => ?_⟩) (fun H' qq => ?_)
  · obtain ⟨cs, hl, ha, e, b, hd2⟩ := qq
    have e := e.trans (ExP.of e3)
    have b := b.keep e3
    have hd2 := e3 _ _ hd2
    have ht : t < d := hi'
    refine pick_raw (hi _) (ev_raw (ev_var (hi2 _)) fun H4 e4 => pk_str (lc := lc) (b.keep e4) (by omega) (by decide) (by decide) fun c H5 hc e5 b5 => ?_)
    have e45 := (ExP.of e4).trans e5
    refine ⟨_, e45.ex _ _ hd2 (Ne.symm np), by rw [List.length_map, List.length_map, hl]; exact Nat.lt_of_lt_of_le (Nat.lt_of_lt_of_le ht (Nat.le_of_lt hd)) (by decide), cs ++ [c], by rw [List.length_append, hl] <;> rfl, fun c' hc' => ?_, ⟨fun b' o ho ne => ?_, fun l2 x2 y2 h2 => ?_⟩, ?_, by rw [upd_same, List.map_append, List.map_append] <;> rfl⟩
    · rcases List.mem_append.mp hc' with h1 | h1
      · exact ha c' h1
      · rw [List.mem_singleton.mp h1]; exact hc
    · have hb1 := e1.ex _ _ ho ne
      rw [upd_ne (ne_of_none hb1 hD)]
      exact e45.ex _ _ (e.ex _ _ ho ne) ne
    · obtain ⟨x3, y3, h3⟩ := (e.trans e45).fix l2 x2 y2 h2
      exact ⟨x3, y3, by rw [upd_ne np]; exact h3⟩
    · exact (b5.upd np nl).more (by omega)
  · obtain ⟨cs, hl, ha, e, b, hd2⟩ := qq
    refine ⟨"", Dl, cs.map sgS, rfl, rfl, .inl (sq_of hd2), ?_, q _ H' ⟨?_, ?_⟩ e (b.more (by omega))⟩
    · rw [sum_sg, List.length_map, hl]
      show d + d * 0 ≤ 16777216
      omega
    · rw [TL.join_eq]
      have := congrArg List.length (join_sg cs)
      rw [Array.length_toList] at this
      omega
    · rw [TL.join_eq, join_sg]
      exact ha
end
end KP
set_option Elab.async false
set_option linter.all false
set_option maxRecDepth 100000
set_option maxHeartbeats 4000000
namespace KP
open PySem PySem.Spec PyProof.Rows L2 Evl KF
local macro_rules | `(tactic| walk_at "ev") => `(tactic| repeat' (first | exact ev_c | exact ev_var rfl | exact rv_I0 | refine' rv_I ?_ | refine' rv_eq ?_ | refine' rv_ne ?_ | refine' ev_op ?_ ?_ ?_ | exact ea_nil | refine' ea_cons ?_ ?_ | refine' et_test ?_ | refine' et_B ?_ | refine' et_not ?_ | refine' ev_notV ?_))

open PySem
theorem rv_addS {H : Hp} {a b : Str} (h : a.length + b.length ≤ 100000) : RV (fun x y H Q => ∃ a b, x = .str a ∧ y = .str b ∧ a.length + b.length ≤ sizeLine ∧ Q (.str (a ++ b)) H) (.str a) (.str b) H (.str (a ++ b)) := fun H1 _ _ q => ⟨a, b, rfl, rfl, sz_of h, q H1 (Ex.refl H1)⟩
theorem iteC {c : Bool} {P Q : Prop} (h1 : c = true → P) (h2 : c = false → Q) : if c = true then P else Q := by
  cases c with
  | true => exact h1 rfl
  | false => exact h2 rfl
section
variable {P : Program} {w : World} {K : PySem.W.Frag} {mg : Str → Option Value} {base : Heap} {a : Ads}
theorem ok_names (T : Txt w K mg a) : FnOk P w K mg base CX0 3 a.f__law_names a.d__law_names ["_law_pen_here", "_law_many"] spNames := by
  have G__law_draw : FnOk P w K mg base CX0 2 _ _ _ _ := (ok_draw T).mono (by decide)
  have G__law_pick : FnOk P w K mg base CX0 2 _ _ _ _ := ok_pick T
  refine T.fn__law_names.ok sc__law_names (fun vs H Q E h => ?_) (fun cdv A outer st H vs Q E hr h => ?_)
  · obtain ⟨_, _, _, rfl, _⟩ := h
    rfl
  · obtain ⟨p, lc, n, rfl, pen, hn, k⟩ := h
    have hrc : Room 2 _ := hr
    refine ⟨_, (pss_cons (ps_set (i := 2) sc__law_names.nd rfl (Or.inr rfl) pe_str)
    (pss_cons (ps_set (i := 4) sc__law_names.nd rfl (Or.inl rfl) (pe_join pe_str (pe_lc (own := [("_law_k", 3)]) (g := gName 3) rfl sc__law_names.nd (pi_range1 rfl T.b_range (pa_cons (pe_call G__law_draw hrc rfl T.mg__law_draw T.fn__law_draw.kp (bd__law_draw T) .nil pass0 (pa_cons (pv 0) (pa_cons pe_int pa_nil))) pa_nil)) (blkOk_by (own := [("_law_k", 3)]) (N := n__law_names) (sc := defScope s__law_names) (by decide +kernel)) (fun _ _ _ _ _ => (pg_name (i := 3) sc__law_names.nd rfl (Or.inl rfl))) (fun _ _ _ _ _ => pts_nil) (fun _ _ _ _ _ => (pe_call G__law_pick hrc rfl T.mg__law_pick T.fn__law_pick.kp (bd__law_pick T) .nil pass0 (pa_cons (pv 0) (pa_cons (pv 2) pa_nil)))))))
    (pss_cons (ps_par (i := 5) (j := 6) rfl sc__law_names.nd rfl rfl (by decide) rfl rfl (pa_cons (pe_call G__law_draw hrc rfl T.mg__law_draw T.fn__law_draw.kp (bd__law_draw T) .nil pass0 (pa_cons (pv 0) (pa_cons pe_int pa_nil))) (pa_cons (pe_call G__law_pick hrc rfl T.mg__law_pick T.fn__law_pick.kp (bd__law_pick T) .nil pass0 (pa_cons (pv 0) (pa_cons (pe_lst (pa_cons pe_int (pa_cons pe_int (pa_cons pe_int (pa_cons pe_int (pa_cons pe_int (pa_cons pe_int pa_nil))))))) pa_nil))) pa_nil)) (by rfl))
    (pss_cons (ps_set (i := 7) sc__law_names.nd rfl (Or.inl rfl) (pe_lst pa_nil))
    (pss_cons (ps_for PassesOwn.never rfl (pi_range1 rfl T.b_range (pa_cons (pv 1) pa_nil)) (pg_name (i := 3) sc__law_names.nd rfl (Or.inl rfl)) (pss_cons (ps_set (i := 8) sc__law_names.nd rfl (Or.inl rfl) (pe_ix ix_str (pv 2) (pe_op op_mod (pe_callTy call_int1 (by rfl) T.b_int (by decide +kernel) (pa_cons (pe_op op_add (pv 5) (pe_op op_mul (pv 6) (pv 3))) pa_nil)) pe_int) (fun _ _ => rfl)))
    (pss_one (ps_expr (pe_bm PySem.F.plainAttrs_list PySem.F.slot_list_append PySem.F.type_list_append mt_append (pv 7) (pa_cons (pe_ifExp (pt_cmpR op_eq (pe_call G__law_draw hrc rfl T.mg__law_draw T.fn__law_draw.kp (bd__law_draw T) .nil pass0 (pa_cons (pv 0) (pa_cons pe_int pa_nil))) pe_int (nomark _)) (pv 8) (pe_op op_add_str (pv 4) (pv 8))) pa_nil))))))
    (pss_one (ps_ret (pv 7)))))))), ?_⟩
    refine q_asg (v := .str lettersS) ev_c fun H1 e1 => ?_
    refine q_stem (K := K) (p := p) (lc := lc) (k := n) (i2 := 2) (fun _ => rfl) rfl (fun _ => rfl) (fun _ => rfl) (pen.keep e1) (by omega) fun s H2 so e2 pen2 => ?_
    refine q_parD (draw_r (p := p) (lc := lc) 26 rfl ev_c pen2 (by omega) (by decide) (by decide) fun f H3 hf e3 pen3 => pick_raw rfl (el_raw (el_lst (vs := [.int 1, .int 3, .int 5, .int 7, .int 9, .int 11]) (ea_cons ev_c (ea_cons ev_c (ea_cons ev_c (ea_cons ev_c (ea_cons ev_c (ea_cons ev_c ea_nil)))))) (by show 6 ≤ 100000; decide)) fun l H4 hl e4 h4 => pk_list (lc := lc) (pen3.keep e4) (by omega) h4 (pen3.pen.ne_new hl) (by show 0 < 6; decide) (by show 6 ≤ 1000; decide) fun x H5 hx e5 pen5 => ⟨_, _, rfl, ?_⟩))
    obtain ⟨h, hh, rfl⟩ : ∃ h ∈ hops, x = .int (h : Nat) := by
      simp only [List.mem_cons, List.not_mem_nil, or_false] at hx
      rcases hx with rfl | rfl | rfl | rfl | rfl | rfl
      · exact ⟨1, by decide, rfl⟩
      · exact ⟨3, by decide, rfl⟩
      · exact ⟨5, by decide, rfl⟩
      · exact ⟨7, by decide, rfl⟩
      · exact ⟨9, by decide, rfl⟩
      · exact ⟨11, by decide, rfl⟩
    have h11 : h ≤ 11 := by
      have : ∀ h ∈ hops, h ≤ 11 := by decide
      exact this h hh
    refine q_asgL (xs := []) (el_lst ea_nil (by decide)) fun q H6 hq e6 h6 => ?_
    have e06 : ExP p H H6 := (((((ExP.of e1).trans e2).trans e3).trans (ExP.of e4)).trans e5).trans (ExP.of e6)
    have qp : q ≠ p := pen5.pen.ne_new hq
    have hq0 : H q = none := by
      cases hx : H q with
      | none => rfl
      | some o => have := (((((ExP.of e1).trans e2).trans e3).trans (ExP.of e4)).trans e5).ex _ _ hx qp; rw [hq] at this; cases this
    refine q_forR1 (n := 4) (ea_cons (ev_var rfl) ea_nil) (by decide) (fun i σ' H' => ∃ o3 o8 ns, σ' = [some (.ref p), some (.int 4), some (.str lettersS), o3, some (.str s), some (.int (f : Nat)), some (.int (h : Nat)), some (.ref q), o8] ∧ ExP p H H' ∧ PenL H' p lc (n + 10 + i) ∧ H' q = some (.lst (ns.map V.str)) ∧ ns.length = i ∧ ∀ j x, ns[j]? = some x → Nm s f h j x)
      (fun H7 e7 => ⟨_, _, [], rfl, e06.trans (ExP.of e7), ((pen5.keep e6).keep e7).more (by omega), e7 _ _ h6, rfl, fun _ _ z => nomatch z⟩) (fun i σ' H7 hi q7 => ?_) (fun σ' H7 q7 => ?_)
    · obtain ⟨o3, o8, ns, rfl, e7, pen7, h7, hl7, nm⟩ := q7
      have hi4 : i < 4 := by omega
      refine q_asg (v := .str (sgS (letC f h i))) (ev_op (ev_var rfl) (ev_op (ev_int (ev_op (ev_var rfl) (ev_op (ev_var rfl) (ev_var rfl) (rv_I (.inl ⟨by omega, by omega⟩))) rv_I0)) ev_c (rv_I (by decide))) (rv_ixS (by decide) ?_)) fun H8 e8 => ?_
      · have e : ((f : Int) + (h : Int) * (i : Int)) % 26 = (((f + h * i) % 26 : Nat) : Int) := by
          rw [Int.natCast_emod, Int.natCast_add, Int.natCast_mul]
          rfl
        rw [e]
        exact atI_nat (letters_at _ (Nat.mod_lt _ (by decide)))
      refine s_app1 (K := K) (j := 7) (l := q) (ys := ns.map V.str) rfl (e8 _ _ h7) ?_
      refine draw_r (p := p) (lc := lc) 3 rfl ev_c (pen7.keep e8) (by omega) (by decide) (by decide) fun d H9 hd e9 pen9 => ⟨rfl, _, rfl, ?_⟩
      have fin : ∀ x, Nm s f h i x → ∃ l' xs y, V.ref q = .ref l' ∧ [V.str x] = [y] ∧ H9 l' = some (.lst xs) ∧ xs.length < sizeLine ∧ (∃ (o3 o8 : Option V) (ns : List Str), ([some (.ref p), some (.int 4), some (.str lettersS), some (.int (i : Nat)), some (.str s), some (.int (f : Nat)), some (.int (h : Nat)), some (.ref q), some (.str (sgS (letC f h i)))] : L2.St) = [some (.ref p), some (.int 4), some (.str lettersS), o3, some (.str s), some (.int (f : Nat)), some (.int (h : Nat)), some (.ref q), o8] ∧ ExP p H (upd H9 l' (.lst (xs ++ [y]))) ∧ PenL (upd H9 l' (.lst (xs ++ [y]))) p lc (n + 10 + (i + 1)) ∧ (upd H9 l' (.lst (xs ++ [y]))) q = some (.lst (ns.map V.str)) ∧ ns.length = i + 1 ∧ ∀ j x, ns[j]? = some x → Nm s f h j x) := fun x hx => by
        have h9 := e9.ex _ _ (e8 _ _ h7) qp
        have e09 := (e7.trans (ExP.of e8)).trans e9
        have lq : lc ≠ q := fun z => by
          obtain ⟨ns0, a0, r0, g1, g2, _⟩ := pen
          have := g2
          rw [z, hq0] at this
          cases this
        refine ⟨q, ns.map V.str, .str x, rfl, rfl, h9, by rw [List.length_map, hl7]; exact Nat.lt_of_lt_of_le hi4 (by decide), _, _, ns ++ [x], rfl, ⟨fun b o ho ne => ?_, fun l2 x2 y2 h2 => ?_⟩, pen9.upd qp.symm lq, by rw [upd_same, List.map_append] <;> rfl, by rw [List.length_append, hl7] <;> rfl, fun j y hy => ?_⟩
        · rw [upd_ne (ne_of_none ho hq0)]
          exact e09.ex _ _ ho ne
        · obtain ⟨x3, y3, h3⟩ := e09.fix l2 x2 y2 h2
          exact ⟨x3, y3, by rw [upd_ne qp.symm]; exact h3⟩
        · by_cases hj : j < ns.length
          · rw [List.getElem?_append_left hj] at hy
            exact nm j y hy
          · rw [List.getElem?_append_right (by omega)] at hy
            have hj0 : j - ns.length = 0 := by
              by_cases z : j - ns.length = 0
              · exact z
              · rw [List.getElem?_eq_none (by show 1 ≤ _; omega)] at hy
                cases hy
            rw [hj0] at hy
            obtain rfl := Option.some.inj hy
            have : j = i := by omega
            rw [this]
            exact hx
      refine iteC (fun _ => ?_) fun _ => ?_
      · exact ⟨_, rfl, fin _ (.inl rfl)⟩
      · exact ⟨_, rfl, _, rfl, s, sgS (letC f h i), rfl, rfl, sz_of (by have := so.le; show s.cps.size + 1 ≤ 100000; omega), fin _ (.inr rfl)⟩
    · obtain ⟨o3, o8, ns, rfl, e7, pen7, h7, hl7, nm⟩ := q7
      exact s_ret (v := .ref q) (ev_var rfl) fun H8 e8 => k q ns H8 hq0 (e7.trans (ExP.of e8)) ((pen7.keep e8).more (by show n + 10 + 4 ≤ n + 14; omega)) (e8 _ _ h7) (names_l so hf hh hl7 nm)
end
end KP
set_option Elab.async false
set_option linter.all false
set_option maxRecDepth 100000
set_option maxHeartbeats 4000000
namespace KP
open PySem PySem.Spec PyProof.Rows L2 Evl KF
local macro_rules | `(tactic| walk_at "ev") => `(tactic| repeat' (first | exact ev_c | exact ev_var rfl | exact rv_I0 | refine' rv_I ?_ | refine' rv_eq ?_ | refine' rv_ne ?_ | refine' ev_op ?_ ?_ ?_ | exact ea_nil | refine' ea_cons ?_ ?_ | refine' et_test ?_ | refine' et_B ?_ | refine' et_not ?_ | refine' ev_notV ?_))

open PySem
/-! ### a line told -/
theorem and_cast (n m : Nat) : Builtin.bitAnd (n : Int) (m : Int) = ((n &&& m : Nat) : Int) := rfl
theorem sub_xor : ∀ m : Nat, m < 512 → 511 - m = 511 ^^^ m := by
  have h : ((List.range 512).all fun m => decide (511 - m = 511 ^^^ m)) = true := by decide +kernel
  exact fun m hm => of_decide_eq_true (all_nat h m hm)
theorem test_big {m i : Nat} (h : m < 512) (hi : 9 ≤ i) : m.testBit i = false := Nat.testBit_lt_two_pow (Nat.lt_of_lt_of_le h (Nat.pow_le_pow_right (by decide) hi : 2 ^ 9 ≤ 2 ^ i))
theorem test_511 : ∀ i : Nat, i < 9 → (511 : Nat).testBit i = true := by decide
/-- what may never stand is kept off what must -/
theorem and_apart {m : Nat} (x : Nat) (h : m < 512) : m &&& (x &&& (511 - m)) = 0 := by
  rw [sub_xor m h]
  refine Nat.eq_of_testBit_eq fun i => ?_
  rw [Nat.testBit_and, Nat.testBit_and, Nat.testBit_xor, Nat.zero_testBit]
  by_cases hi : i < 9
  · rw [test_511 i hi]
    cases m.testBit i <;> simp
  · rw [test_big h (by omega)]
    rfl
theorem and_lt512 (x m : Nat) : x &&& (511 - m) < 512 := Nat.lt_of_le_of_lt Nat.and_le_right (by omega)
def TellAt (H : Hp) (t : Addr) (L : Ln) : Prop := ∃ v1 v2, H t = some (.tup [.str L.form, v1, v2, .int (L.must : Nat), .int (L.never : Nat)]) ∧ ToldAt H v1 L.o1 ∧ ToldAt H v2 L.o2
theorem TellAt.mono {H H' : Hp} {t : Addr} {L : Ln} (h : TellAt H t L) (e : Ex H H') : TellAt H' t L := let ⟨v1, v2, h0, h1, h2⟩ := h; ⟨v1, v2, e _ _ h0, h1.mono e, h2.mono e⟩
section
variable {H H' : Hp} {p lc l : Addr} {n : Nat} {xs : List Str} {v : V} {o : Option (List Str)}
theorem PenL.ne_strs (pen : PenL H p lc n) (hl : H l = some (.lst (xs.map V.str))) : l ≠ p := fun z => by
  obtain ⟨ns, at_, rest, h1, _⟩ := pen
  rw [z, h1] at hl
  cases xs with
  | nil => cases hl
  | cons x r => cases hl
theorem PenL.ne_tup (pen : PenL H p lc n) {ys : List V} (hl : H l = some (.tup ys)) : l ≠ p := pen.pen.ne_tup hl
theorem ToldAt.exP (h : ToldAt H v o) (pen : PenL H p lc n) (e : ExP p H H') : ToldAt H' v o := by
  cases o with
  | none => exact h
  | some xs =>
    obtain ⟨l, hv, hl⟩ := h
    exact ⟨l, hv, e.ex _ _ hl (pen.ne_strs hl)⟩
theorem TellAt.exP {t : Addr} {L : Ln} (h : TellAt H t L) (pen : PenL H p lc n) (e : ExP p H H') : TellAt H' t L := let ⟨v1, v2, h0, h1, h2⟩ := h; ⟨v1, v2, e.ex _ _ h0 (pen.ne_tup h0), h1.exP pen e, h2.exP pen e⟩
theorem ModeAt.exP {a : Ads} {q : Addr} {m : Nat} (h : ModeAt a H q m) (pen : PenL H p lc n) (e : ExP p H H') : ModeAt a H' q m := by
  obtain ⟨dx, h⟩ := h
  obtain ⟨ns, at_, rest, h1, _⟩ := pen
  exact ⟨dx, e.ex _ _ h (ne_of h h1 fun z => nomatch z)⟩
theorem KeptAt.exP (h : KeptAt H v o) (pen : PenL H p lc n) (e : ExP p H H') : KeptAt H' v o := by
  cases o with
  | none => exact h
  | some xs =>
    obtain ⟨l, ys, hv, hm, hs, hl⟩ := h
    exact ⟨l, ys, hv, hm, hs, e.ex _ _ hl (pen.ne_tup hl)⟩
theorem LineAt.exP {a : Ads} {b : Addr} {L : Ln} (h : LineAt a H b L) (pen : PenL H p lc n) (e : ExP p H H') : LineAt a H' b L := by
  obtain ⟨dx, v1, v2, m1, m2, h0, h1, h2, h3, h4⟩ := h
  refine ⟨dx, v1, v2, m1, m2, e.ex _ _ h0 ?_, h1.exP pen e, h2.exP pen e, h3.exP pen e, h4.exP pen e⟩
  obtain ⟨ns, at_, rest, g1, _⟩ := pen
  exact ne_of h0 g1 fun z => nomatch z
end
theorem op_raw2 {ta tb : TE} {r : R2} {σ : L2.St} {H : Hp} {Q : VK} (h : ta σ H fun x H1 => tb σ H1 fun y H2 => r x y H2 Q) : tOp r ta tb σ H Q := h
theorem none_nt {ns : List Str} (hns : NamesL ns) : NamesG none := ⟨fun _ z => (nomatch z), fun _ z => (nomatch z), fun _ z => (nomatch z), fun _ z => (nomatch z)⟩
theorem NamesG.non : NamesG none := ⟨fun _ z => (nomatch z), fun _ z => (nomatch z), fun _ z => (nomatch z), fun _ z => (nomatch z)⟩
theorem NamesG.one {x : Str} (h : NameOk x) : NamesG (some [x]) := by
  refine ⟨fun _ z => ?_, fun _ z => ?_, fun _ z => ?_, fun _ z => ?_⟩ <;> cases z
  · exact (by decide : 1 ≤ 1)
  · exact (by decide : 1 ≤ 2)
  · intro y hy
    rw [List.mem_singleton.mp hy]
    exact h
  · exact List.nodup_cons.mpr ⟨fun z => (nomatch z), List.nodup_nil⟩
theorem NamesG.two {x y : Str} (h : NameOk x) (k : NameOk y) (ne : x ≠ y) : NamesG (some [x, y]) := by
  refine ⟨fun _ z => ?_, fun _ z => ?_, fun _ z => ?_, fun _ z => ?_⟩ <;> cases z
  · exact (by decide : 1 ≤ 2)
  · exact (by decide : 2 ≤ 2)
  · intro z hz
    simp only [List.mem_cons, List.not_mem_nil, or_false] at hz
    rcases hz with rfl | rfl
    · exact h
    · exact k
  · simp only [List.nodup_cons, List.mem_cons, List.not_mem_nil, or_false, not_false_eq_true, List.nodup_nil, and_true]
    exact ne
/-- what stands at v -/
def OptAt (H : Hp) (v : V) : Prop := ∃ o, ToldAt H v o ∧ NamesG o
theorem OptAt.exP {H H' : Hp} {p lc : Addr} {n : Nat} {v : V} (h : OptAt H v) (pen : PenL H p lc n) (e : ExP p H H') : OptAt H' v := let ⟨o, t, k⟩ := h; ⟨o, t.exP pen e, k⟩
theorem ret_raw {te : TE} {σ : L2.St} {H : Hp} {D : Ends} (h : te σ H D.rt) : tRet te D σ H := h
def musts : List Nat := [0, 0, 256, 320, 448, 73, 292, 128, 7]
def nevers : List Nat := [0, 0, 7, 18, 73, 511, 64, 146]
def spLLine : Sp := fun vs H Q _ => ∃ (p lc ln : Addr) (n : Nat) (ns : List Str), vs = [.ref p, .ref ln] ∧ PenL H p lc n ∧ n + 9 ≤ 100000 ∧ H ln = some (.lst (ns.map V.str)) ∧ NamesL ns ∧ ∀ t L H', H t = none → ExP p H H' → PenL H' p lc (n + 9) → TellAt H' t L → LnG L → Q (.ref t) H'
section
variable {K : PySem.W.Frag} {σ : L2.St} {H : Hp} {t1 t2 t3 t4 t5 ta tb te : TE} {D : Ends} {tz : TS} {i i2 j jj n k : Nat} {p lc : Addr} {E E2 : XK} {Q : VK} {x : V} {c1 c2 c3 c4 c5 c6 c7 c8 c9 : V}
theorem lst1_raw (h : t1 σ H fun v H1 => [v].length ≤ sizeLine ∧ ∀ l, H1 l = none → Q (.ref l) (upd H1 l (.lst [v]))) : tLst (tCons t1 tNil) σ H Q := h
theorem lst5_raw (h : t3 σ H fun v3 H1 => t4 σ H1 fun v4 H2 => t5 σ H2 fun v5 H3 => [c1, c2, v3, v4, v5].length ≤ sizeLine ∧ ∀ l, H3 l = none → Q (.ref l) (upd H3 l (.lst [c1, c2, v3, v4, v5]))) : tLst (tCons (tC c1) (tCons (tC c2) (tCons t3 (tCons t4 (tCons t5 tNil))))) σ H Q := h
theorem lst5b_raw (h : t4 σ H fun v4 H2 => t5 σ H2 fun v5 H3 => [c1, c2, c3, v4, v5].length ≤ sizeLine ∧ ∀ l, H3 l = none → Q (.ref l) (upd H3 l (.lst [c1, c2, c3, v4, v5]))) : tLst (tCons (tC c1) (tCons (tC c2) (tCons (tC c3) (tCons t4 (tCons t5 tNil))))) σ H Q := h
theorem lst10_raw (h : te σ H fun v H1 => [c1, c2, c3, c4, c5, c6, c7, c8, c9, v].length ≤ sizeLine ∧ ∀ l, H1 l = none → Q (.ref l) (upd H1 l (.lst [c1, c2, c3, c4, c5, c6, c7, c8, c9, v]))) : tLst (tCons (tC c1) (tCons (tC c2) (tCons (tC c3) (tCons (tC c4) (tCons (tC c5) (tCons (tC c6) (tCons (tC c7) (tCons (tC c8) (tCons (tC c9) (tCons te tNil)))))))))) σ H Q := h
theorem lst9_raw (h : te σ H fun v H1 => [c1, c2, c3, c4, c5, c6, c7, c8, v].length ≤ sizeLine ∧ ∀ l, H1 l = none → Q (.ref l) (upd H1 l (.lst [c1, c2, c3, c4, c5, c6, c7, c8, v]))) : tLst (tCons (tC c1) (tCons (tC c2) (tCons (tC c3) (tCons (tC c4) (tCons (tC c5) (tCons (tC c6) (tCons (tC c7) (tCons (tC c8) (tCons te tNil))))))))) σ H Q := h
theorem tup5_raw {tr : TA} (h : te σ H fun v H1 => tr σ H1 fun xs H2 => (v :: xs).length ≤ sizeLine ∧ ∀ l, H2 l = none → Q (.ref l) (upd H2 l (.tup (v :: xs)))) : tTup (tCons te tr) σ H Q := h
end
section
variable {P : Program} {w : World} {K : PySem.W.Frag} {mg : Str → Option Value} {base : Heap} {a : Ads}
theorem ok_lline (T : Txt w K mg a) : FnOk P w K mg base CX0 3 a.f__law_line a.d__law_line ["_law_pen_here", "_law_names_here"] spLLine := by
  have G__law_draw : FnOk P w K mg base CX0 2 _ _ _ _ := (ok_draw T).mono (by decide)
  have G__law_pick : FnOk P w K mg base CX0 2 _ _ _ _ := ok_pick T
  refine T.fn__law_line.ok sc__law_line (fun vs H Q E h => ?_) (fun cdv A outer st H vs Q E hr h => ?_)
  · obtain ⟨_, _, _, _, _, rfl, _⟩ := h
    rfl
  · obtain ⟨p, lc, ln, n, ns, rfl, pen, hn, hl, hns, k⟩ := h
    have hrc : Room 2 _ := hr
    refine ⟨_, (pss_cons (ps_set (i := 2) sc__law_line.nd rfl (Or.inl rfl) (pe_call G__law_pick hrc rfl T.mg__law_pick T.fn__law_pick.kp (bd__law_pick T) .nil pass0 (pa_cons (pv 0) (pa_cons (pe_lst (pa_cons pe_non (pa_cons pe_non (pa_cons (pe_lst (pa_cons (pe_call G__law_pick hrc rfl T.mg__law_pick T.fn__law_pick.kp (bd__law_pick T) .nil pass0 (pa_cons (pv 0) (pa_cons (pv 1) pa_nil))) pa_nil)) (pa_cons (pe_slice sl_list (pv 1) po_none (po_some pe_int)) (pa_cons (pe_slice sl_list (pv 1) (po_some pe_int) (po_some pe_int)) pa_nil)))))) pa_nil))))
    (pss_cons (ps_set (i := 3) sc__law_line.nd rfl (Or.inl rfl) (pe_call G__law_pick hrc rfl T.mg__law_pick T.fn__law_pick.kp (bd__law_pick T) .nil pass0 (pa_cons (pv 0) (pa_cons (pe_lst (pa_cons pe_non (pa_cons pe_non (pa_cons pe_non (pa_cons (pe_lst (pa_cons (pe_call G__law_pick hrc rfl T.mg__law_pick T.fn__law_pick.kp (bd__law_pick T) .nil pass0 (pa_cons (pv 0) (pa_cons (pv 1) pa_nil))) pa_nil)) (pa_cons (pe_slice sl_list (pv 1) (po_some pe_int) (po_some pe_int)) pa_nil)))))) pa_nil))))
    (pss_cons (ps_set (i := 4) sc__law_line.nd rfl (Or.inl rfl) (pe_call G__law_pick hrc rfl T.mg__law_pick T.fn__law_pick.kp (bd__law_pick T) .nil pass0 (pa_cons (pv 0) (pa_cons (pe_lst (pa_cons pe_int (pa_cons pe_int (pa_cons pe_int (pa_cons pe_int (pa_cons pe_int (pa_cons pe_int (pa_cons pe_int (pa_cons pe_int (pa_cons pe_int (pa_cons (pe_call G__law_draw hrc rfl T.mg__law_draw T.fn__law_draw.kp (bd__law_draw T) .nil pass0 (pa_cons (pv 0) (pa_cons pe_int pa_nil))) pa_nil))))))))))) pa_nil))))
    (pss_cons (ps_set (i := 5) sc__law_line.nd rfl (Or.inl rfl) (pe_op op_and (pe_call G__law_pick hrc rfl T.mg__law_pick T.fn__law_pick.kp (bd__law_pick T) .nil pass0 (pa_cons (pv 0) (pa_cons (pe_lst (pa_cons pe_int (pa_cons pe_int (pa_cons pe_int (pa_cons pe_int (pa_cons pe_int (pa_cons pe_int (pa_cons pe_int (pa_cons pe_int (pa_cons (pe_call G__law_draw hrc rfl T.mg__law_draw T.fn__law_draw.kp (bd__law_draw T) .nil pass0 (pa_cons (pv 0) (pa_cons pe_int pa_nil))) pa_nil)))))))))) pa_nil))) (pe_op op_sub pe_int (pv 4))))
    (pss_one (ps_ret (pe_tup (pa_cons (pe_call G__law_pick hrc rfl T.mg__law_pick T.fn__law_pick.kp (bd__law_pick T) .nil pass0 (pa_cons (pv 0) (pa_cons (pe_lst (pa_cons pe_str (pa_cons pe_str pa_nil))) pa_nil))) (pa_cons (pv 2) (pa_cons (pv 3) (pa_cons (pv 4) (pa_cons (pv 5) pa_nil)))))))))))), ?_⟩
    obtain ⟨n0, n1, n2, n3, rfl⟩ : ∃ n0 n1 n2 n3, ns = [n0, n1, n2, n3] := by
      match ns, hns.len with
      | [a, b, c, d], _ => exact ⟨a, b, c, d, rfl⟩
    have ok0 := hns.ok n0 (by simp)
    have ok1 := hns.ok n1 (by simp)
    have ok2 := hns.ok n2 (by simp)
    have ok3 := hns.ok n3 (by simp)
    have nd := hns.nd
    simp only [List.nodup_cons, List.mem_cons, List.not_mem_nil, or_false, not_or] at nd
    have onew : ∀ {q : Addr} {H1 : Hp} {xs : List Str}, H1 q = some (.lst (xs.map V.str)) → NamesG (some xs) → OptAt H1 (.ref q) := fun h ok => ⟨some _, ⟨_, rfl, h⟩, ok⟩
    -- owners
    refine q_asgD (pick_raw rfl (lst5_raw (lst1_raw (pick_raw rfl (ev_raw (ev_var rfl) fun H1 e1 => pk_list (lc := lc) (pen.keep e1) (by omega) (e1 _ _ hl) ((pen.keep e1).ne_strs (e1 _ _ hl)) (by show 0 < 4; decide) (by show 4 ≤ 1000; decide) fun x1 H2 hx1 e2 pen2 => ⟨by show 1 ≤ sizeLine; decide, fun q1 hq1 => ?_⟩)))))
    obtain ⟨y1, hy1, rfl⟩ := List.mem_map.mp hx1
    have hl2 := e2.ex _ _ (e1 _ _ hl) ((pen.keep e1).ne_strs (e1 _ _ hl))
    have en1 : Ex H2 (upd H2 q1 (.lst [.str y1])) := Ex.new hq1
    have g1 : upd H2 q1 (.lst [.str y1]) q1 = some (.lst [.str y1]) := upd_same
    have pen3 := pen2.keep en1
    have hl3 := en1 _ _ hl2
    have x3 : ExP p H (upd H2 q1 (.lst [.str y1])) := ((ExP.of e1).trans e2).trans (ExP.of en1)
    generalize upd H2 q1 (.lst [.str y1]) = H3 at en1 g1 pen3 hl3 x3
    refine el_raw (el_is (el_sliceL (K := K) (ev_var rfl) eo_none (eo_some ev_c) (sq_of hl3)) (show _ = [n0, n1].map V.str from rfl)) fun s1 H4 hs1 e4 h4 => el_raw (el_is (el_sliceL (K := K) (ev_var rfl) (eo_some ev_c) (eo_some ev_c) (sq_of (e4 _ _ hl3))) (show _ = [n1, n2].map V.str from rfl)) fun s2 H5 hs2 e5 h5 => ⟨by show 5 ≤ sizeLine; decide, fun q2 hq2 => ?_⟩
    have e35 := e4.trans e5
    have en2 : Ex H5 (upd H5 q2 (.lst [.non, .non, .ref q1, .ref s1, .ref s2])) := Ex.new hq2
    have pen6 := pen3.keep (e35.trans en2)
    have hl6 := (e35.trans en2) _ _ hl3
    have x6 := x3.trans (ExP.of (e35.trans en2))
    have f1 := (e35.trans en2) _ _ g1
    have f2 := (e5.trans en2) _ _ h4
    have f3 := en2 _ _ h5
    have ne6 : q2 ≠ p := (pen3.keep e35).pen.ne_new hq2
    refine pk_list (lc := lc) pen6 (by omega) upd_same ne6 (by show 0 < 5; decide) (by show 5 ≤ 1000; decide) fun vo H7 hvo e7 pen7 => ?_
    have ov : OptAt H7 vo := by
      refine OptAt.exP ?_ pen6 e7
      simp only [List.mem_cons, List.not_mem_nil, or_false] at hvo
      rcases hvo with rfl | rfl | rfl | rfl | rfl
      · exact ⟨none, rfl, .non⟩
      · exact ⟨none, rfl, .non⟩
      · exact onew (xs := [y1]) f1 (.one (hns.ok _ hy1))
      · exact onew f2 (.two ok0 ok1 nd.1.1)
      · exact onew f3 (.two ok1 ok2 nd.2.1.1)
    have hl7 := e7.ex _ _ hl6 (pen6.ne_strs hl6)
    have x7 := x6.trans e7
    clear hvo f1 f2 f3 g1 h4 h5 hs1 hs2 hq1 hq2 en1 en2
    -- groups
    refine q_asgD (pick_raw rfl (lst5b_raw (lst1_raw (pick_raw rfl (ev_raw (ev_var rfl) fun H8 e8 => pk_list (lc := lc) (pen7.keep e8) (by omega) (e8 _ _ hl7) ((pen7.keep e8).ne_strs (e8 _ _ hl7)) (by show 0 < 4; decide) (by show 4 ≤ 1000; decide) fun x2 H9 hx2 e9 pen9 => ⟨by show 1 ≤ sizeLine; decide, fun q3 hq3 => ?_⟩)))))
    obtain ⟨y2, hy2, rfl⟩ := List.mem_map.mp hx2
    have hl9 := e9.ex _ _ (e8 _ _ hl7) ((pen7.keep e8).ne_strs (e8 _ _ hl7))
    have en3 : Ex H9 (upd H9 q3 (.lst [.str y2])) := Ex.new hq3
    have g3 : upd H9 q3 (.lst [.str y2]) q3 = some (.lst [.str y2]) := upd_same
    have pen10 := pen9.keep en3
    have hl10 := en3 _ _ hl9
    have x710 : ExP p H7 (upd H9 q3 (.lst [.str y2])) := ((ExP.of e8).trans e9).trans (ExP.of en3)
    generalize upd H9 q3 (.lst [.str y2]) = H10 at en3 g3 pen10 hl10 x710
    refine el_raw (el_is (el_sliceL (K := K) (ev_var rfl) (eo_some ev_c) (eo_some ev_c) (sq_of hl10)) (show _ = [n2, n3].map V.str from rfl)) fun s3 H11 hs3 e11 h11 => ⟨by show 5 ≤ sizeLine; decide, fun q4 hq4 => ?_⟩
    have en4 : Ex H11 (upd H11 q4 (.lst [.non, .non, .non, .ref q3, .ref s3])) := Ex.new hq4
    have pen12 := pen10.keep (e11.trans en4)
    have f4 := (e11.trans en4) _ _ g3
    have f5 := en4 _ _ h11
    have ne12 : q4 ≠ p := (pen10.keep e11).pen.ne_new hq4
    refine pk_list (lc := lc) pen12 (by omega) upd_same ne12 (by show 0 < 5; decide) (by show 5 ≤ 1000; decide) fun vg H13 hvg e13 pen13 => ?_
    have og : OptAt H13 vg := by
      refine OptAt.exP ?_ pen12 e13
      simp only [List.mem_cons, List.not_mem_nil, or_false] at hvg
      rcases hvg with rfl | rfl | rfl | rfl | rfl
      · exact ⟨none, rfl, .non⟩
      · exact ⟨none, rfl, .non⟩
      · exact ⟨none, rfl, .non⟩
      · exact onew (xs := [y2]) f4 (.one (hns.ok _ hy2))
      · exact onew f5 (.two ok2 ok3 nd.2.2.1)
    have x713 := (x710.trans (ExP.of (e11.trans en4))).trans e13
    have ov13 := ov.exP pen7 x713
    have x13 := x7.trans x713
    clear hvg f4 f5 g3 h11 hs3 hq3 hq4 en3 en4
    -- must
    refine q_asgD (pick_raw rfl (lst10_raw (draw_r (p := p) (lc := lc) 512 rfl ev_c pen13 (by omega) (by decide) (by decide) fun d1 H14 hd1 e14 pen14 => ⟨by show 10 ≤ sizeLine; decide, fun q5 hq5 => ?_⟩)))
    refine pk_list (lc := lc) (pen14.keep (Ex.new hq5)) (by omega) upd_same (pen14.pen.ne_new hq5) (by show 0 < 10; decide) (by show 10 ≤ 1000; decide) fun vm H15 hvm e15 pen15 => ?_
    obtain ⟨m, hm, rfl⟩ : ∃ m : Nat, m < 512 ∧ vm = .int (m : Nat) := by
      simp only [List.mem_cons, List.not_mem_nil, or_false] at hvm
      rcases hvm with rfl | rfl | rfl | rfl | rfl | rfl | rfl | rfl | rfl | rfl
      · exact ⟨0, by decide, rfl⟩
      · exact ⟨0, by decide, rfl⟩
      · exact ⟨256, by decide, rfl⟩
      · exact ⟨320, by decide, rfl⟩
      · exact ⟨448, by decide, rfl⟩
      · exact ⟨73, by decide, rfl⟩
      · exact ⟨292, by decide, rfl⟩
      · exact ⟨128, by decide, rfl⟩
      · exact ⟨7, by decide, rfl⟩
      · exact ⟨d1, hd1, rfl⟩
    have x1315 := (e14.trans (ExP.of (Ex.new hq5))).trans e15
    have ov15 := ov13.exP pen13 x1315
    have og15 := og.exP pen13 x1315
    have x15 := x13.trans x1315
    clear hvm
    -- never
    refine q_asgD (op_raw2 (pick_raw rfl (lst9_raw (draw_r (p := p) (lc := lc) 512 rfl ev_c pen15 (by omega) (by decide) (by decide) fun d2 H16 hd2 e16 pen16 => ⟨by show 9 ≤ sizeLine; decide, fun q6 hq6 => ?_⟩))))
    refine pk_list (lc := lc) (pen16.keep (Ex.new hq6)) (by omega) upd_same (pen16.pen.ne_new hq6) (by show 0 < 9; decide) (by show 9 ≤ 1000; decide) fun vn H17 hvn e17 pen17 => ?_
    obtain ⟨r, rfl⟩ : ∃ r : Nat, vn = .int (r : Nat) := by
      simp only [List.mem_cons, List.not_mem_nil, or_false] at hvn
      rcases hvn with rfl | rfl | rfl | rfl | rfl | rfl | rfl | rfl | rfl
      · exact ⟨0, rfl⟩
      · exact ⟨0, rfl⟩
      · exact ⟨7, rfl⟩
      · exact ⟨18, rfl⟩
      · exact ⟨73, rfl⟩
      · exact ⟨511, rfl⟩
      · exact ⟨64, rfl⟩
      · exact ⟨146, rfl⟩
      · exact ⟨d2, rfl⟩
    have x1517 := (e16.trans (ExP.of (Ex.new hq6))).trans e17
    have ov17 := ov15.exP pen15 x1517
    have og17 := og15.exP pen15 x1517
    have x17 := x15.trans x1517
    clear hvn
    refine ev_raw (ev_op ev_c (ev_var rfl) rv_I0) fun H18 e18 => ⟨_, _, rfl, rfl, ?_⟩
    have eN : Builtin.bitAnd (r : Int) (511 - (m : Int)) = ((r &&& (511 - m) : Nat) : Int) := by
      rw [show (511 : Int) - (m : Int) = ((511 - m : Nat) : Int) by omega, and_cast]
    show tRet _ _ [some (.ref p), some (.ref ln), some vo, some vg, some (.int (m : Nat)), some (.int (Builtin.bitAnd (r : Int) (511 - (m : Int))))] H18
    rw [eN]
    have pen18 := pen17.keep e18
    -- the line
    refine ret_raw (tup5_raw (pick_raw rfl (el_raw (el_lst (vs := [.str "file", .str "folder"]) (ea_cons ev_c (ea_cons ev_c ea_nil)) (by show 2 ≤ 100000; decide)) fun q7 H19 hq7 e19 h19 => pk_list (lc := lc) (pen18.keep e19) (by omega) h19 (pen18.pen.ne_new hq7) (by show 0 < 2; decide) (by show 2 ≤ 1000; decide) fun vf H20 hvf e20 pen20 => ?_)))
    obtain ⟨f, hf, rfl⟩ : ∃ f : Str, (f = "file" ∨ f = "folder") ∧ vf = .str f := by
      simp only [List.mem_cons, List.not_mem_nil, or_false] at hvf
      rcases hvf with rfl | rfl
      · exact ⟨_, .inl rfl, rfl⟩
      · exact ⟨_, .inr rfl, rfl⟩
    have x1720 := (ExP.of (e18.trans e19)).trans e20
    obtain ⟨o1, tv, okv⟩ := ov17.exP pen17 x1720
    obtain ⟨o2, tg, okg⟩ := og17.exP pen17 x1720
    have x20 := x17.trans x1720
    refine (ea_cons (ev_var rfl) (ea_cons (ev_var rfl) (ea_cons (ev_var rfl) (ea_cons (ev_var rfl) ea_nil))) : EvA _ _ H20 [vo, vg, .int (m : Nat), .int ((r &&& (511 - m) : Nat) : Int)]) H20 (Ex.refl _) _ fun H21 e21 => ⟨by show 5 ≤ sizeLine; decide, fun t ht => ?_⟩
    have en : Ex H21 (upd H21 t (.tup [.str f, vo, vg, .int (m : Nat), .int ((r &&& (511 - m) : Nat) : Int)])) := Ex.new ht
    have tp : t ≠ p := (pen20.keep e21).pen.ne_new ht
    refine k t ⟨f, o1, o2, m, r &&& (511 - m)⟩ _ ?_ (x20.trans (ExP.of (e21.trans en))) (pen20.keep (e21.trans en)) ⟨vo, vg, upd_same, tv.mono (e21.trans en), tg.mono (e21.trans en)⟩ ⟨hf, okv, okg, hm, and_lt512 _ _, ?_⟩
    · cases hx : H t with
      | none => rfl
      | some o =>
        have := e21 _ _ (x20.ex _ _ hx tp)
        rw [ht] at this
        cases this
    · show Builtin.bitAnd (m : Int) ((r &&& (511 - m) : Nat) : Int) = 0
      rw [and_cast, and_apart r hm]
      rfl
end
end KP
set_option Elab.async false
set_option linter.all false
set_option maxRecDepth 100000
set_option maxHeartbeats 4000000
namespace KP
open PySem PySem.Spec PyProof.Rows L2 Evl KF
local macro_rules | `(tactic| walk_at "ev") => `(tactic| repeat' (first | exact ev_c | exact ev_var rfl | exact rv_I0 | refine' rv_I ?_ | refine' rv_eq ?_ | refine' rv_ne ?_ | refine' ev_op ?_ ?_ ?_ | exact ea_nil | refine' ea_cons ?_ ?_ | refine' et_test ?_ | refine' et_B ?_ | refine' et_not ?_ | refine' ev_notV ?_))

open PySem
/-! ### the law's own reckoning -/
def spLName (a : Ads) : Sp := spName a
def numV (s : Sh) : V := match numW s with
  | some n => .int (n : Nat)
  | none => .non
def spLNum (a : Ads) : Sp := fun vs H Q _ => ∃ (p : Addr) (v : V) (s : Sh), vs = [v] ∧ Vw a p H v s ∧ ∀ H', Ex H H' → Q (numV s) H'
def dueV (o : Option Nat) : V := match o with
  | some n => .int (n : Nat)
  | none => .non
def spLDue (a : Ads) : Sp := fun vs H Q _ => ∃ (b : Addr) (v1 v2 v3 v4 v5 : V) (f o g m n : Sh), vs = [v1, v2, v3, v4, v5] ∧ Args a b H v1 v2 v3 v4 v5 f o g m n ∧ ∀ H', Ex H H' → Q (dueV (dueW f o g m n)) H'
theorem given_bad {α : Type} (q : α → Bool) (x : α → V) (xs : List α) : (given xs.length (fun i => !((xs[i]?).map q).getD true) fun i => ((xs[i]?).map x).getD .non) = [] ↔ xs.all q = true := by
  unfold given
  rw [List.map_eq_nil_iff, List.filter_eq_nil_iff, List.all_eq_true]
  constructor
  · intro h y hy
    obtain ⟨i, hi, e⟩ := List.mem_iff_getElem.mp hy
    have := h i (List.mem_range.mpr hi)
    rw [List.getElem?_eq_getElem hi, e] at this
    cases hq : q y with
    | true => rfl
    | false => exact absurd (by show (!(q y)) = true; rw [hq]; rfl) this
  · intro h i hi
    have hi := List.mem_range.mp hi
    rw [List.getElem?_eq_getElem hi]
    show ¬ (!(q xs[i])) = true
    rw [h _ (List.getElem_mem hi)]
    decide
theorem rv_niS {H : Hp} {c : Nat} {w : Str} : RV (fun x y H Q => ∃ (c : Nat) (z : Str), x = .str ⟨#[c]⟩ ∧ y = .str z ∧ Q (.bl (!decide (c ∈ z.cps.toList))) H) (.str ⟨#[c]⟩) (.str w) H (.bl (!decide (c ∈ w.cps.toList))) := fun H1 _ _ q => ⟨c, w, rfl, rfl, q H1 (Ex.refl H1)⟩
section
variable {P : Program} {w : World} {K : PySem.W.Frag} {mg : Str → Option Value} {base : Heap} {a : Ads}
theorem ok_lnum (T : Txt w K mg a) : FnOk P w K mg base CX0 4 a.f__law_number a.d__law_number ["_law_thing"] (spLNum a) := by
  have G_Mode_number : FnOk P w K mg base CX0 2 _ _ _ _ := (ok_Mode_number T).mono (by decide)
  refine T.fn__law_number.ok sc__law_number (fun vs H Q E h => ?_) (fun cdv A outer s H vs Q E hr h => ?_)
  · obtain ⟨_, _, _, rfl, _⟩ := h
    rfl
  · obtain ⟨p, v, s, rfl, hv, k⟩ := h
    have hrm : Room (2 + 1) _ := hr
    refine ⟨_, (pss_cons (ps_if (pt_val (pe_callB call_isi (by rfl) T.b_isinstance PyProof.Rows.boot_isinstance (pa_cons (pv 0) (pa_cons (pe_glob (v := .ref a.f_Mode) rfl T.mg_Mode rfl) pa_nil)))) (pss_one (ps_ret (pe_prop (pv 0) T.c_Mode T.p_Mode_number (G_Mode_number) hrm (bd_Mode_number T) .nil pass0 rfl))) pss_nil)
    (pss_one (ps_ret (pe_ifExp (PW.pt (pw_and (pt_val (pe_callB call_isi (by rfl) T.b_isinstance PyProof.Rows.boot_isinstance (pa_cons (pv 0) (pa_cons (pe_bltn (v := .ty "int") (by rfl) T.b_int (by decide +kernel) rfl) pa_nil)))) (pw_and (pt_not (pt_val (pe_callB call_isi (by rfl) T.b_isinstance PyProof.Rows.boot_isinstance (pa_cons (pv 0) (pa_cons (pe_bltn (v := .ty "bool") (by rfl) T.b_bool (by decide +kernel) rfl) pa_nil))))) (pw_and1 (pt_chain op_le op_le pe_int (pv 0) pe_int))))) (pv 0) pe_non)))), ?_⟩
    refine q_when (b := isM s) (et_B (ev_isMode T (ev_var rfl) hv)) (fun yes H1 e1 => ?_) fun no H1 e1 => ?_
    · cases hv with
      | mode ne hn at_ =>
        obtain ⟨dx, hp⟩ := at_
        exact s_ret (v := numV (.mode _)) (ev_is (ev_prop (ev_var rfl) (e1 _ _ hp) (spv_get (e1 _ _ hp) (by simp [List.lookup]; rfl))) rfl) fun H2 e2 => k H2 (e1.trans e2)
      | _ => cases yes
    · cases hw : (isW s "int" && !isW s "bool") with
      | true =>
        obtain ⟨i, rfl⟩ := whole_int hw
        cases hv with
        | int _ =>
          refine s_ret (v := numV (.int i)) (ev_if (b := decide (0 ≤ i) && decide (i ≤ 511)) (et_is (et_and (a := true) (b := decide (0 ≤ i) && decide (i ≤ 511)) (et_B (ev_isW (p := p) T (ev_var rfl) (.int i) (t := "int") (by decide))) fun _ => et_is (et_and (a := true) (b := decide (0 ≤ i) && decide (i ≤ 511)) (et_is (et_not (a := false) (et_B (ev_isW (p := p) T (ev_var rfl) (.int i) (t := "bool") (by decide)))) rfl) fun _ => et_test (ev_chain ev_c (ev_var rfl) rv_I0 fun _ => ⟨ev_c, rv_I0⟩)) (by rw [Bool.true_and])) (by rw [Bool.true_and])) (fun yes => ev_is (ev_var rfl) ?_) (fun no2 => ev_is ev_c ?_)) fun H2 e2 => k H2 (e1.trans e2)
          · have h := Bool.and_eq_true_iff.mp yes
            have h1 := of_decide_eq_true h.1
            have h2 := of_decide_eq_true h.2
            show V.int i = (match (if 0 ≤ i ∧ i ≤ 511 then some i.toNat else none : Option Nat) with
              | some n => V.int (n : Nat)
              | none => V.non)
            rw [if_pos ⟨h1, h2⟩]
            show V.int i = V.int (i.toNat : Nat)
            rw [Int.toNat_of_nonneg h1]
          · show V.non = (match (if 0 ≤ i ∧ i ≤ 511 then some i.toNat else none : Option Nat) with
              | some n => V.int (n : Nat)
              | none => V.non)
            rw [if_neg (fun z => by rw [decide_eq_true z.1, decide_eq_true z.2] at no2; cases no2)]
      | false =>
        have z : numV s = .non := by
          have z := num_some (s := s)
          rw [no, wholeTo_no hw, Bool.or_false] at z
          unfold numV
          cases h : numW s with
          | none => rfl
          | some n => rw [h] at z; cases z
        rw [z] at k
        refine s_ret (v := .non) (ev_if (b := false) (et_is (et_and (a := isW s "int") (b := false) (et_B (ev_isW T (ev_var rfl) (hv.mono e1) (t := "int") (by decide))) fun yes => et_is (et_and (a := !isW s "bool") (b := false) (et_not (et_B (ev_isW T (ev_var rfl) (hv.mono e1) (t := "bool") (by decide)))) fun yes2 => ?_) (by rw [Bool.and_false])) (by rw [Bool.and_false])) (fun z => nomatch z) (fun _ => ev_c)) fun H2 e2 => k H2 (e1.trans e2)
        rw [yes, yes2] at hw
        cases hw
theorem ok_lname (T : Txt w K mg a) : FnOk P w K mg base CX0 2 a.f__law_is_name a.d__law_is_name ["_law_thing"] (spLName a) := by
  refine T.fn__law_is_name.ok sc__law_is_name (fun vs H Q E h => ?_) (fun cdv A outer s H vs Q E hr h => ?_)
  · obtain ⟨_, _, _, rfl, _⟩ := h
    rfl
  · obtain ⟨p, x, sh, rfl, hv, k⟩ := h
    refine ⟨_, (pss_cons (ps_set (i := 1) sc__law_is_name.nd rfl (Or.inr rfl) pe_str)
    (pss_one (ps_ret (pe_and (pe_callB call_isi (by rfl) T.b_isinstance PyProof.Rows.boot_isinstance (pa_cons (pv 0) (pa_cons (pe_bltn (v := .ty "str") (by rfl) T.b_str (by decide +kernel) rfl) pa_nil))) (pe_and (pe_chain op_le op_le pe_int (pe_callB call_len_str (by rfl) T.b_len PySem.boot_len (pa_cons (pv 0) pa_nil)) pe_int) (pe_one (pe_cmpR (KV.op_eqNilL rfl hr.units) (pe_lc (own := [("_law_sign", 2)]) (g := gName 2) rfl sc__law_is_name.nd (pi_str (pv 0)) (blkOk_by (own := [("_law_sign", 2)]) (N := n__law_is_name) (sc := defScope s__law_is_name) (by decide +kernel)) (fun _ _ _ _ _ => (pg_name (i := 2) sc__law_is_name.nd rfl (Or.inl rfl))) (fun _ _ _ _ _ => (pts_one (pt_cmpR op_notIn_sign (pv 2) (pv 1) (by rfl)))) (fun _ _ _ _ _ => (pv 2))) (pe_lst pa_nil) (nomark _)))))))), ?_⟩
    refine q_asg (v := .str lettersS) ev_c fun H1 e1 => ?_
    cases hs : isW sh "str" with
    | true =>
      cases hv with
      | str s sz =>
        have hl : s.length = s.cps.size := rfl
        have hr2 : decide ((1 : Int) ≤ (s.length : Nat)) = decide (1 ≤ s.cps.size) := decide_eq_decide.mpr (by omega)
        have hr8 : decide (((s.length : Nat) : Int) ≤ 8) = decide (s.cps.size ≤ 8) := decide_eq_decide.mpr (by omega)
        refine s_ret (v := .bl (nmW (.str s))) (ev_is (ev_andV (a := true) (b := nmS s) (ev_isW (p := p) T (ev_var rfl) (.str s sz) (t := "str") (by decide)) fun _ => ev_is (ev_andV (a := decide ((1 : Int) ≤ (s.length : Nat)) && decide (((s.length : Nat) : Int) ≤ 8)) (b := s.cps.toList.all fun c => decide (c ∈ lettersS.cps.toList)) (ev_chain ev_c (ev_lenStr (ev_var rfl) (by omega)) rv_I0 fun _ => ⟨ev_c, rv_I0⟩) fun _ => ev_is (KV.ev_eqNilN (K := K) (neg := false) (el_lcS (s := s) (fun i => !((s.cps.toList[i]?).map fun c => decide (c ∈ lettersS.cps.toList)).getD true) (fun i => ((s.cps.toList[i]?).map fun c => V.str ⟨#[c]⟩).getD .non) (ev_var rfl) (by omega) (fun _ => rfl) (fun i c H4 e4 hx => ?_) fun i c H4 e4 hx _ => ?_) (el_lst (vs := []) ea_nil (by show 0 ≤ 100000; decide))) ?_) ?_) rfl) fun H2 e2 => k H2 (e1.trans e2)
        · rw [← Array.getElem?_toList] at hx
          rw [hx]
          exact et_test (ev_op (ev_var rfl) (ev_var rfl) rv_niS)
        · rw [← Array.getElem?_toList] at hx
          rw [hx]
          exact ev_var rfl
        · refine congrArg V.bl ?_
          show decide _ = _
          rw [Bool.eq_iff_iff, decide_eq_true_iff]
          exact given_bad (fun c => decide (c ∈ lettersS.cps.toList)) (fun c => V.str ⟨#[c]⟩) s.cps.toList
        · rw [hr2, hr8]
          rfl
      | _ => exact nomatch (show false = true from hs)
    | false =>
      rw [nmW_no hs] at k
      exact s_ret (v := .bl false) (ev_is (ev_andV (a := false) (b := false) (ev_is (ev_isW T (ev_var rfl) (hv.mono e1) (t := "str") (by decide)) (congrArg V.bl hs)) fun z => nomatch z) rfl) fun H2 e2 => k H2 (e1.trans e2)
end
end KP
set_option Elab.async false
set_option linter.all false
set_option maxRecDepth 100000
set_option maxHeartbeats 4000000
namespace KP
open PySem PySem.Spec PyProof.Rows L2 Evl KF
local macro_rules | `(tactic| walk_at "ev") => `(tactic| repeat' (first | exact ev_c | exact ev_var rfl | exact rv_I0 | refine' rv_I ?_ | refine' rv_eq ?_ | refine' rv_ne ?_ | refine' ev_op ?_ ?_ ?_ | exact ea_nil | refine' ea_cons ?_ ?_ | refine' et_test ?_ | refine' et_B ?_ | refine' et_not ?_ | refine' ev_notV ?_))

open PySem
section
variable {P : Program} {w : World} {K : PySem.W.Frag} {mg : Str → Option Value} {base : Heap} {a : Ads}
theorem ok_ltold (T : Txt w K mg a) : FnOk P w K mg base CX0 3 a.f__law_is_told a.d__law_is_told ["_law_thing"] (spTold a) := by
  have G__law_is_name : FnOk P w K mg base CX0 2 _ _ _ _ := ok_lname T
  refine T.fn__law_is_told.ok sc__law_is_told (fun vs H Q E h => ?_) (fun cdv A outer s H vs Q E hr h => ?_)
  · obtain ⟨_, _, _, rfl, _⟩ := h
    rfl
  · obtain ⟨p, v, s, rfl, hv, k⟩ := h
    have hrc : Room 2 _ := hr
    refine ⟨_, (pss_cons (ps_if (pt_cmpR op_isN (pv 0) pe_non (nomark _)) (pss_one (ps_ret pe_bl)) pss_nil)
    (pss_cons (ps_if (PW.pt (pw_or (pt_not (pt_val (pe_callB call_isiT (by rfl) T.b_isinstance PyProof.Rows.boot_isinstance (pa_cons (pv 0) (pa_cons (pe_tup (pa_cons (pe_bltn (v := .ty "list") (by rfl) T.b_list (by decide +kernel) rfl) (pa_cons (pe_bltn (v := .ty "tuple") (by rfl) T.b_tuple (by decide +kernel) rfl) pa_nil))) pa_nil))))) (pw_or1 (pt_not (pt_chain op_le op_le pe_int (pe_callB call_len_seq (by rfl) T.b_len PySem.boot_len (pa_cons (pv 0) pa_nil)) pe_int))))) (pss_one (ps_ret pe_bl)) pss_nil)
    (pss_one (ps_ret (pe_and (pe_cmpR (KV.op_eqNilL rfl hr.units) (pe_lc (own := [("_law_one", 1)]) (g := gName 1) rfl sc__law_is_told.nd (pi_seq (K := K) rfl (pv 0)) (blkOk_by (own := [("_law_one", 1)]) (N := n__law_is_told) (sc := defScope s__law_is_told) (by decide +kernel)) (fun _ _ _ _ _ => (pg_name (i := 1) sc__law_is_told.nd rfl (Or.inl rfl))) (fun _ _ _ _ _ => (pts_one (pt_not (pt_val (pe_call G__law_is_name hrc rfl T.mg__law_is_name T.fn__law_is_name.kp (bd__law_is_name T) .nil pass0 (pa_cons (pv 1) pa_nil)))))) (fun _ _ _ _ _ => (pv 1))) (pe_lst pa_nil) (nomark _)) (pe_one (pe_or (pe_cmpR op_eq (pe_callB call_len_seq (by rfl) T.b_len PySem.boot_len (pa_cons (pv 0) pa_nil)) pe_int (nomark _)) (pe_one (pe_cmpR op_ne (pe_ix (ix_seqQ (K := K) rfl) (pv 0) pe_int (fun _ _ => rfl)) (pe_ix (ix_seqQ (K := K) rfl) (pv 0) pe_int (fun _ _ => rfl)) (nomark _)))))))))), ?_⟩
    refine q_when (b := decide (v = .non)) (et_test (ev_op (ev_var rfl) ev_c rv_isN)) (fun yes H1 e1 => ?_) fun no H1 e1 => ?_
    · have es := (non_iff hv).mp (of_decide_eq_true yes)
      subst es
      exact s_ret (v := .bl true) ev_c fun H2 e2 => k H2 (e1.trans e2)
    · have ns : s ≠ .non := fun z => of_decide_eq_false no ((non_iff hv).mpr z)
      cases hq : (isW s "list" || isW s "tuple") with
      | false =>
        rw [told_no hq ns] at k
        refine q_when (b := true) (et_or (a := true) (b := true) (et_is (et_not (a := false) (et_B (ev_is (ev_isSeq T (ev_var rfl) (hv.mono e1)) (congrArg V.bl hq)))) rfl) fun z => nomatch z) (fun _ H2 e2 => ?_) fun z => nomatch z
        exact s_ret (v := .bl false) ev_c fun H3 e3 => k H3 ((e1.trans e2).trans e3)
      | true =>
        obtain ⟨l, xs, ws, rfl, hl, all, _, few, et⟩ := seq_of hv hq
        rw [et] at k
        have lx := all.len
        refine q_when (b := !(decide (1 ≤ ws.length) && decide (ws.length ≤ 2))) (et_is (et_or (a := false) (b := !(decide ((1 : Int) ≤ (xs.length : Nat)) && decide (((xs.length : Nat) : Int) ≤ 2))) (et_is (et_not (a := true) (et_B (ev_is (ev_isSeq T (ev_var rfl) (hv.mono e1)) (congrArg V.bl hq)))) rfl) fun _ => et_not (et_test (ev_chain ev_c (ev_lenQ (K := K) (ev_var rfl) (hl.mono e1)) rv_I0 fun _ => ⟨ev_c, rv_I0⟩))) ?_) (fun bad H2 e2 => ?_) fun ok H2 e2 => ?_
        · rw [show decide ((1 : Int) ≤ (xs.length : Nat)) = decide (1 ≤ ws.length) from decide_eq_decide.mpr (by omega), show decide (((xs.length : Nat) : Int) ≤ 2) = decide (ws.length ≤ 2) from decide_eq_decide.mpr (by omega)]
          rfl
        · have z : seqOk ws = false := by
            unfold seqOk
            rw [not_t bad]
            rfl
          rw [z] at k
          exact s_ret (v := .bl false) ev_c fun H3 e3 => k H3 ((e1.trans e2).trans e3)
        · have two := not_f ok
          have hl2 := (hl.mono e1).mono e2
          have all2 := (all.mono e1).mono e2
          have e12 := e1.trans e2
          have names : Ev (tOp (KV.rNilL K false) (tLc (iSeq K (tVar 0)) (gName 1) (tNot (tB (tCall (spLName a) [] E0 (tCons (tVar 1) tNil)))) (tVar 1) [1]) (tLst tNil)) [some (.ref l), none] H2 (.bl (ws.all nmW)) := by
            refine ev_is (KV.ev_eqNilN (K := K) (neg := false) (el_lcQ (K := K) (xs := xs) (fun i => !((ws[i]?).map nmW).getD true) (fun i => (xs[i]?).getD .non) (ev_var rfl) hl2 (by omega) (fun _ => rfl) (fun i x H4 e4 hx => ?_) fun i x H4 e4 hx _ => ?_) (el_lst (vs := []) ea_nil (by show 0 ≤ 100000; decide))) (congrArg V.bl ?_)
            · obtain ⟨sx, hs, hvx⟩ := all2.at2 hx
              rw [hs]
              exact et_not (et_B (ev_call (vs := [x]) (ea_cons (ev_var rfl) ea_nil) fun H5 e5 Q q E => ⟨p, x, sx, rfl, hvx.mono (e4.trans e5), q⟩))
            · rw [hx]
              exact ev_var rfl
            · show decide _ = _
              rw [Bool.eq_iff_iff, decide_eq_true_iff, lx]
              unfold given
              rw [List.map_eq_nil_iff]
              have := given_bad nmW (fun _ => V.non) ws
              unfold given at this
              rw [List.map_eq_nil_iff] at this
              exact this
          refine s_ret (v := .bl (seqOk ws)) (ev_is (ev_andV (a := ws.all nmW) (b := unW ws) names fun nms => ?_) ?_) fun H3 e3 => k H3 (e12.trans e3)
          · have es := strs_of all2 nms
            match ws, xs, lx, two, nms, es, hl2, all2 with
            | [], _, _, two, _, _, _, _ => exact absurd two (by decide)
            | [w1], [x1], _, _, nms, es, hl2, _ =>
              refine ev_is (ev_orV (a := true) (b := true) (ev_is (ev_op (ev_lenQ (K := K) (ev_var rfl) hl2) ev_c (rv_eq rfl)) rfl) fun z => nomatch z) (congrArg V.bl ?_)
              refine (decide_eq_true ?_).symm
              have h1 := strs_len nms
              match h : [w1].filterMap strOf, h1 with
              | [z], _ => exact List.nodup_cons.mpr ⟨fun z => (nomatch z), List.nodup_nil⟩
            | [w1, w2], [x1, x2], _, _, nms, es, hl2, _ =>
              have h1 := strs_len nms
              match h : [w1, w2].filterMap strOf, h1 with
              | [z1, z2], _ =>
                rw [h] at es
                cases es
                refine ev_is (ev_orV (a := false) (b := !decide (V.str z1 = V.str z2)) (ev_is (ev_op (ev_lenQ (K := K) (ev_var rfl) hl2) ev_c (rv_eq rfl)) rfl) fun _ => ev_op (ev_op (ev_var rfl) ev_c (rv_ixQ (K := K) hl2 rfl)) (ev_op (ev_var rfl) ev_c (rv_ixQ (K := K) hl2 rfl)) (rv_ne rfl)) (congrArg V.bl ?_)
                unfold unW
                rw [h]
                by_cases e : z1 = z2
                · subst e
                  simp
                · have : V.str z1 ≠ V.str z2 := fun z => e (by injection z)
                  simp [e, this]
            | _ :: _ :: _ :: _, _, _, two, _, _, _, _ =>
              have := of_decide_eq_true (Bool.and_eq_true_iff.mp two).2
              simp at this
            | [_], [], lx, _, _, _, _, _ => cases lx
            | [_], _ :: _ :: _, lx, _, _, _, _, _ => cases lx
            | [_, _], [], lx, _, _, _, _, _ => cases lx
            | [_, _], [_], lx, _, _, _, _, _ => cases lx
            | [_, _], _ :: _ :: _ :: _, lx, _, _, _, _, _ => cases lx
          · unfold seqOk
            rw [two, Bool.true_and]
end
end KP
set_option Elab.async false
set_option linter.all false
set_option maxRecDepth 100000
set_option maxHeartbeats 4000000
namespace KP
open PySem PySem.Spec PyProof.Rows L2 Evl KF
local macro_rules | `(tactic| walk_at "ev") => `(tactic| repeat' (first | exact ev_c | exact ev_var rfl | exact rv_I0 | refine' rv_I ?_ | refine' rv_eq ?_ | refine' rv_ne ?_ | refine' ev_op ?_ ?_ ?_ | exact ea_nil | refine' ea_cons ?_ ?_ | refine' et_test ?_ | refine' et_B ?_ | refine' et_not ?_ | refine' ev_notV ?_))

open PySem
theorem call_strS {X : Cx} {K : PySem.W.Frag} (hK : X.K = K) : CallR X (.type "str") (fun xs H Q => ∃ a, xs = [.str a] ∧ Q (.str a) H) := SkE.call_str_str
theorem cr_sortedSE {X : Cx} {K : PySem.W.Frag} (hK : X.K = K) : CallR X (.builtin "sorted") (rSortedS K) := hK ▸ cr_sortedS
theorem call_tupE {X : Cx} {K : PySem.W.Frag} (hK : X.K = K) : CallR X (.type "tuple") (fun xs H Q => ∃ p ys, xs = [.ref p] ∧ ((SqL K H p ys ∧ ∀ l, H l = none → Q (.ref l) (upd H l (.tup ys))) ∨ (SqT K H p ys ∧ Q (.ref p) H))) := hK ▸ call_tuple_of
/-- what a line shows -/
def ShownAt (H : Hp) (t : Addr) (L : Ln) : Prop := ∃ w1 w2, H t = some (.tup [.str L.form, w1, w2, .int (L.must : Nat), .int (L.never : Nat)]) ∧ KeptAt H w1 L.o1 ∧ KeptAt H w2 L.o2
def NmQ (H : Hp) (v : V) (o : Option (List Str)) : Prop := match o with
  | none => v = .non
  | some xs => ∃ l, v = .ref l ∧ SqAt H l (xs.map V.str) ∧ xs.length < 64
theorem NmQ.mono {H H' : Hp} {v : V} {o : Option (List Str)} (h : NmQ H v o) (e : Ex H H') : NmQ H' v o := by
  cases o with
  | none => exact h
  | some xs =>
    obtain ⟨l, h1, h2, h3⟩ := h
    exact ⟨l, h1, h2.mono e, h3⟩
def spShown (a : Ads) : Sp := fun vs H Q _ => ∃ (b : Addr) (L : Ln), vs = [.ref b] ∧ LineAt a H b L ∧ ∀ t H', H t = none → Ex H H' → ShownAt H' t L → Q (.ref t) H'
def spEven : Sp := fun vs H Q _ => ∃ (t : Addr) (v1 v2 : V) (L : Ln), vs = [.ref t] ∧ H t = some (.tup [.str L.form, v1, v2, .int (L.must : Nat), .int (L.never : Nat)]) ∧ NmQ H v1 L.o1 ∧ NmQ H v2 L.o2 ∧ ∀ r H', H r = none → Ex H H' → ShownAt H' r L → Q (.ref r) H'
section
variable {K : PySem.W.Frag} {σ : L2.St} {H : Hp} {ta tb te tl : TE} {x v : V} {xs : List V} {r : R2}
theorem ev_opU (ha : Ev ta σ H x) (hb : EvU tb σ H xs) (h : ∀ q H1, Ex H H1 → H1 q = some (.tup xs) → RV r x (.ref q) H1 v) : Ev (tOp r ta tb) σ H v := fun H1 e Q q =>
  ha H1 e _ fun H2 e2 => hb H2 (e.trans e2) _ fun p H3 _ e3 hp => h p H3 ((e.trans e2).trans e3) hp H3 (Ex.refl H3) Q fun H4 e4 => q H4 ((e2.trans e3).trans e4)
/-- a list comprehension over a tuple whose items are told by a predicate -/
theorem lc_told {j : Nat} {vs : List Nat} {B : Nat → Hp → V → Prop} {Q : VK} (h : EvX tl σ H xs) (hz : xs.length ≤ 900) (hw : ∀ x, wipe ((wipe σ vs).set j (some x)) vs = wipe σ vs)
    (st : ∀ i H H' y, B i H y → Ex H H' → B i H' y) (stL : ∀ i H y D as bs, B i H y → H D = some (.lst as) → B i (upd H D (.lst bs)) y)
    (he : ∀ (i : Nat) (x : V) H1, Ex H H1 → xs[i]? = some x → EvP te ((wipe σ vs).set j (some x)) H1 (B i))
    (q : ∀ D ys H1, H D = none → Ex H H1 → ys.length = xs.length → (∀ i y, ys[i]? = some y → B i H1 y) → H1 D = some (.lst ys) → Q (.ref D) H1) : tLc (iTup K tl) (gName j) tYes te vs σ H Q :=
  h H (Ex.refl H) _ fun a H1 e1 hx => ⟨a, rfl, ⟨xs, st_of hx⟩, fun D hD =>
    lc_tup (xs := xs) (fun i H' => ∃ ys : List V, ys.length = i ∧ (∀ k y, ys[k]? = some y → B k H' y) ∧ Ex H1 H' ∧ H' D = some (.lst ys)) ⟨[], rfl, fun k y z => (by simp at z), Ex.new hD, upd_same⟩ (fun i H' _ p => let ⟨_, _, _, e, _⟩ := p; st_of (e _ _ hx)) (fun i x H' hi p => by
      obtain ⟨ys, hl, all, e, hd⟩ := p
      refine ⟨hw x, (et_yes : EvT tYes _ H' true) H' (Ex.refl _) _ fun H2 e2 => ?_⟩
      show te _ H2 _
      refine he i x H2 ((e1.trans e).trans e2) hi H2 (Ex.refl _) _ fun y H3 e3 by3 => ⟨ys, e3 _ _ (e2 _ _ hd), ?_, ys ++ [y], by rw [List.length_append, hl]; rfl, fun k z hz => ?_, Ex.mut ((e.trans e2).trans e3) hD, upd_same⟩
      · have hi := (List.getElem?_eq_some_iff.mp hi).1
        rw [hl, sizeLine_eq]
        omega
      · have hd3 := e3 _ _ (e2 _ _ hd)
        by_cases hk : k < ys.length
        · rw [List.getElem?_append_left hk] at hz
          exact stL _ _ _ _ _ _ (st _ _ _ _ (st _ _ _ _ (all k z hz) e2) e3) hd3
        · rw [List.getElem?_append_right (by omega)] at hz
          have hk2 : k = i := by
            have := (List.getElem?_eq_some_iff.mp hz).1
            simp at this
            omega
          subst hk2
          rw [hl, Nat.sub_self] at hz
          cases hz
          exact stL _ _ _ _ _ _ by3 hd3) (fun H' p => by
      obtain ⟨ys, hl, all, e, hd⟩ := p
      exact q D ys H' (fresh_back e1 hD) (e1.trans e) hl all hd)⟩
end
section
variable {K : PySem.W.Frag} {σ : L2.St} {H : Hp} {ta tb te tl : TE} {tlo thi : TO} {lo hi : Option Int} {x v : V} {xs : List V} {t : TT} {P : Hp → V → Prop} {b : Bool}
theorem ew_slT (h : EvX te σ H xs) (h1 : EvO tlo σ H lo) (h2 : EvO thi σ H hi) (part : ¬ (HT.sIx xs.length 0 lo = 0 ∧ HT.sIx xs.length xs.length hi = xs.length)) : EvX (tSl (rSlT K) te tlo thi) σ H (cutV xs lo hi) := fun H1 e Q q =>
  h H1 e _ fun p H2 e2 hp => h1 H2 (e.trans e2) _ fun H3 e3 => h2 H3 ((e.trans e2).trans e3) _ fun H4 e4 => ⟨p, xs, rfl, st_of ((e3.trans e4) _ _ hp), part, fun l hl => q l _ (((e2.trans e3).trans e4).trans (Ex.new hl)) upd_same⟩
theorem ep_if (h : EvT t σ H b) (h1 : b = true → EvP ta σ H P) (h2 : b = false → EvP tb σ H P) : EvP (tIf t ta tb) σ H P := fun H1 e Q q => h H1 e _ fun H2 e2 => by
  cases b with
  | true => exact h1 rfl H2 (e.trans e2) _ fun x H3 e3 z => q x H3 (e2.trans e3) z
  | false => exact h2 rfl H2 (e.trans e2) _ fun x H3 e3 z => q x H3 (e2.trans e3) z
theorem ep_ev (h : Ev te σ H v) (k : ∀ H1, P H1 v) : EvP te σ H P := fun H1 e Q q => h H1 e _ fun H2 e2 => q v H2 e2 (k H2)
theorem ep_tupS {ss : List Str} (h : EvL te σ H (ss.map V.str)) (hl : ss.length < 64) : EvP (tCB (fun xs H Q => ∃ p ys, xs = [.ref p] ∧ ((SqL K H p ys ∧ ∀ l, H l = none → Q (.ref l) (upd H l (.tup ys))) ∨ (SqT K H p ys ∧ Q (.ref p) H))) (tCons (tCB (rSortedS K) (tCons te tNil)) tNil)) σ H (fun H y => KeptAt H y (some ss)) := fun H1 e Q q =>
  h H1 e _ fun p H2 _ e2 hp => ⟨p, ss, rfl, sq_of hp, hl, fun ys l hperm hs hl => ⟨l, _, rfl, .inl ⟨sq_of upd_same, fun u hu => q _ _ ((e2.trans (Ex.new hl)).trans (Ex.new hu)) ⟨u, ys, rfl, hperm, hs, upd_same⟩⟩⟩⟩
end
theorem kept_st {H H' : Hp} {y : V} {o : Option (List Str)} (h : KeptAt H y o) (e : Ex H H') : KeptAt H' y o := h.mono e
theorem kept_stL {H : Hp} {y : V} {D : Addr} {as bs : List V} {o : Option (List Str)} (h : KeptAt H y o) (hd : H D = some (.lst as)) : KeptAt (upd H D (.lst bs)) y o := by
  cases o with
  | none => exact h
  | some xs =>
    obtain ⟨l, ys, hv, hm, hs, hl⟩ := h
    exact ⟨l, ys, hv, hm, hs, by rw [upd_ne (ne_of hl hd fun z => nomatch z)]; exact hl⟩
section
variable {P : Program} {w : World} {K : PySem.W.Frag} {mg : Str → Option Value} {base : Heap} {a : Ads}
theorem num_is {s : Sh} : decide (numV s = .non) = !(numW s).isSome := by
  unfold numV
  cases numW s with
  | none => exact decide_eq_true rfl
  | some n => exact decide_eq_false (fun z => nomatch z)
theorem ok_ldue (T : Txt w K mg a) : FnOk P w K mg base CX0 5 a.f__law_due a.d__law_due ["_law_form_so", "_law_owners_so", "_law_groups_so", "_law_must_so", "_law_never_so"] (spLDue a) := by
  have G__law_is_told : FnOk P w K mg base CX0 4 _ _ _ _ := (ok_ltold T).mono (by decide)
  have G__law_number : FnOk P w K mg base CX0 4 _ _ _ _ := ok_lnum T
  refine T.fn__law_due.ok sc__law_due (fun vs H Q E h => ?_) (fun cdv A outer s H vs Q E hr h => ?_)
  · obtain ⟨_, _, _, _, _, _, _, _, _, _, _, rfl, _⟩ := h
    rfl
  · obtain ⟨b, v1, v2, v3, v4, v5, f, o, g, m, n, rfl, ag, k⟩ := h
    have hrc : Room 4 _ := hr
    refine ⟨_, (pss_cons (ps_if (pt_cmpR (KW.op_notInS rfl hr.units) (pv 0) (pe_tup (pa_cons pe_str (pa_cons pe_str pa_nil))) (by rfl)) (pss_one (ps_ret pe_int)) pss_nil)
    (pss_cons (ps_if (pt_not (pt_val (pe_call G__law_is_told hrc rfl T.mg__law_is_told T.fn__law_is_told.kp (bd__law_is_told T) .nil pass0 (pa_cons (pv 1) pa_nil)))) (pss_one (ps_ret pe_int)) pss_nil)
    (pss_cons (ps_if (pt_not (pt_val (pe_call G__law_is_told hrc rfl T.mg__law_is_told T.fn__law_is_told.kp (bd__law_is_told T) .nil pass0 (pa_cons (pv 2) pa_nil)))) (pss_one (ps_ret pe_int)) pss_nil)
    (pss_cons (ps_if (pt_cmpR op_isN (pe_call G__law_number hrc rfl T.mg__law_number T.fn__law_number.kp (bd__law_number T) .nil pass0 (pa_cons (pv 3) pa_nil)) pe_non (nomark _)) (pss_one (ps_ret pe_int)) pss_nil)
    (pss_one (ps_ret (pe_ifExp (PW.pt (pw_or (pt_cmpR op_isN (pe_call G__law_number hrc rfl T.mg__law_number T.fn__law_number.kp (bd__law_number T) .nil pass0 (pa_cons (pv 4) pa_nil)) pe_non (nomark _)) (pw_or1 (pt_cmpR op_gt (pe_op op_and (pe_call G__law_number hrc rfl T.mg__law_number T.fn__law_number.kp (bd__law_number T) .nil pass0 (pa_cons (pv 3) pa_nil)) (pe_call G__law_number hrc rfl T.mg__law_number T.fn__law_number.kp (bd__law_number T) .nil pass0 (pa_cons (pv 4) pa_nil))) pe_int (nomark _))))) pe_int pe_non))))))), ?_⟩
    refine q_when (b := !formW f) (et_is (et_test (ev_opU (ev_var rfl) (eu_tup (vs := [.str "file", .str "folder"]) (ea_cons ev_c (ea_cons ev_c ea_nil)) (by decide)) fun q H3 e3 hq => KW.rv_inS (neg := true) (zs := ["file", "folder"]) (vw_any (ag.h1.mono e3) ag.nf) (st_of hq))) (congrArg (!·) (form_is ag.h1))) (fun hb1 H1 e1 => ?_) fun hb1 H1 e1 => ?_
    · have z : dueW f o g m n = some 0 := by unfold dueW; rw [if_pos (not_t hb1)]
      rw [z] at k
      exact s_ret (v := .int 0) ev_c fun H2 e2 => k H2 (e1.trans e2)
    have z1 := not_f hb1
    refine q_when (b := !toldW o) (et_not (a := toldW o) (et_B (ev_call (vs := [v2]) (ea_cons (ev_var rfl) ea_nil) fun H2 e Q q E => ⟨b, v2, o, rfl, ag.h2.mono (e1.trans e), q⟩))) (fun hb2 H2 e2 => ?_) fun hb2 H2 e2 => ?_
    · have z : dueW f o g m n = some 1 := by unfold dueW; rw [if_neg (by rw [z1]; decide), if_pos (not_t hb2)]
      rw [z] at k
      exact s_ret (v := .int 1) ev_c fun H3 e3 => k H3 ((e1.trans e2).trans e3)
    have z2 := not_f hb2
    replace e1 := e1.trans e2
    clear e2
    refine q_when (b := !toldW g) (et_not (a := toldW g) (et_B (ev_call (vs := [v3]) (ea_cons (ev_var rfl) ea_nil) fun H2 e Q q E => ⟨b, v3, g, rfl, ag.h3.mono (e1.trans e), q⟩))) (fun hb2 H2 e2 => ?_) fun hb2 H2 e2 => ?_
    · have z : dueW f o g m n = some 2 := by unfold dueW; rw [if_neg (by rw [z1]; decide), if_neg (by rw [z2]; decide), if_pos (not_t hb2)]
      rw [z] at k
      exact s_ret (v := .int 2) ev_c fun H3 e3 => k H3 ((e1.trans e2).trans e3)
    have z3 := not_f hb2
    replace e1 := e1.trans e2
    clear e2
    have due3 : dueW f o g m n = (match numW m with
      | none => some 3
      | some x => match numW n with
        | none => some 4
        | some y => if Builtin.bitAnd (x : Int) (y : Int) = 0 then none else some 4) := by
      unfold dueW
      rw [if_neg (by rw [z1]; decide), if_neg (by rw [z2]; decide), if_neg (by rw [z3]; decide)] <;> (cases numW m <;> first | rfl | (cases numW n <;> rfl))
    rw [due3] at k
    have num : ∀ (j : Nat) (v : V) (s : Sh) {σ : L2.St} {H5 : Hp} {E : XK}, Vw a b H5 v s → σ[j]? = some (some v) → Ev (tCall (spLNum a) [] E (tCons (tVar j) tNil)) σ H5 (numV s) := fun j v s σ H5 E hv hs => ev_call (vs := [v]) (ea_cons (ev_var hs) ea_nil) fun H6 e Q q E => ⟨b, v, s, rfl, hv.mono e, q⟩
    refine q_when (b := !(numW m).isSome) (et_is (et_test (ev_op (num 3 v4 m (ag.h4.mono e1) rfl) ev_c rv_isN)) num_is) (fun hb2 H2 e2 => ?_) fun hb2 H2 e2 => ?_
    · cases hm : numW m with
      | none =>
        rw [hm] at k
        exact s_ret (v := .int 3) ev_c fun H3 e3 => k H3 ((e1.trans e2).trans e3)
      | some x => rw [hm] at hb2; cases hb2
    obtain ⟨x, hx⟩ := Option.isSome_iff_exists.mp (not_f hb2)
    rw [hx] at k
    replace e1 := e1.trans e2
    clear e2
    have nx : numV m = .int (x : Nat) := by unfold numV; rw [hx]
    cases hy : numW n with
    | none =>
      rw [hy] at k
      exact s_ret (v := .int 4) (ev_if (b := true) (et_or (a := true) (b := true) (et_is (et_test (ev_op (num 4 v5 n (ag.h5.mono e1) rfl) ev_c rv_isN)) (by rw [num_is, hy]; rfl)) fun z => nomatch z) (fun _ => ev_c) fun z => nomatch z) fun H3 e3 => k H3 (e1.trans e3)
    | some y =>
      rw [hy] at k
      have ny : numV n = .int (y : Nat) := by unfold numV; rw [hy]
      have pos : ∀ z : Int, z = Builtin.bitAnd (x : Int) (y : Int) → 0 ≤ z := fun z hz => by rw [hz, and_cast]; exact Int.natCast_nonneg _
      refine s_ret (v := dueV (if Builtin.bitAnd (x : Int) (y : Int) = 0 then none else some 4)) (ev_if (b := decide (Builtin.bitAnd (x : Int) (y : Int) > 0)) (et_or (a := false) (b := decide (Builtin.bitAnd (x : Int) (y : Int) > 0)) (et_is (et_test (ev_op (num 4 v5 n (ag.h5.mono e1) rfl) ev_c rv_isN)) (by rw [num_is, hy]; rfl)) fun _ => et_test (ev_op (ev_op (ev_is (num 3 v4 m (ag.h4.mono e1) rfl) nx) (ev_is (num 4 v5 n (ag.h5.mono e1) rfl) ny) rv_I0) ev_c rv_I0)) (fun yes => ev_is ev_c ?_) fun no => ev_is ev_c ?_) fun H3 e3 => k H3 (e1.trans e3)
      · have := of_decide_eq_true yes
        rw [if_neg (by omega)]
        rfl
      · have h := of_decide_eq_false no
        have := pos _ rfl
        rw [if_pos (by omega)]
        rfl
theorem ok_shown (T : Txt w K mg a) : FnOk P w K mg base CX0 3 a.f__law_shown a.d__law_shown ["_law_line_here"] (spShown a) := by
  have G_Line_form : FnOk P w K mg base CX0 1 _ _ _ _ := ok_Line_form T
  have G_Line_owners : FnOk P w K mg base CX0 1 _ _ _ _ := ok_Line_owners T
  have G_Line_groups : FnOk P w K mg base CX0 1 _ _ _ _ := ok_Line_groups T
  have G_Line_must : FnOk P w K mg base CX0 1 _ _ _ _ := ok_Line_must T
  have G_Line_never : FnOk P w K mg base CX0 1 _ _ _ _ := ok_Line_never T
  have G_Mode_number : FnOk P w K mg base CX0 1 _ _ _ _ := ok_Mode_number T
  refine T.fn__law_shown.ok sc__law_shown (fun vs H Q E h => ?_) (fun cdv A outer s H vs Q E hr h => ?_)
  · obtain ⟨_, _, rfl, _⟩ := h
    rfl
  · obtain ⟨b, L, rfl, hL, k⟩ := h
    have hrm : Room (1 + 1) _ := hr
    refine ⟨_, (pss_one (ps_ret (pe_tup (pa_cons (pe_prop (pv 0) T.c_Line T.p_Line_form (G_Line_form) hrm (bd_Line_form T) .nil pass0 rfl) (pa_cons (pe_prop (pv 0) T.c_Line T.p_Line_owners (G_Line_owners) hrm (bd_Line_owners T) .nil pass0 rfl) (pa_cons (pe_prop (pv 0) T.c_Line T.p_Line_groups (G_Line_groups) hrm (bd_Line_groups T) .nil pass0 rfl) (pa_cons (pe_prop (pe_prop (pv 0) T.c_Line T.p_Line_must (G_Line_must) hrm (bd_Line_must T) .nil pass0 rfl) T.c_Mode T.p_Mode_number (G_Mode_number) hrm (bd_Mode_number T) .nil pass0 rfl) (pa_cons (pe_prop (pe_prop (pv 0) T.c_Line T.p_Line_never (G_Line_never) hrm (bd_Line_never T) .nil pass0 rfl) T.c_Mode T.p_Mode_number (G_Mode_number) hrm (bd_Mode_number T) .nil pass0 rfl) pa_nil)))))))), ?_⟩
    obtain ⟨dx, v1, v2, m1, m2, hb, k1, k2, ⟨d1, h1⟩, ⟨d2, h2⟩⟩ := hL
    exact s_retU (eu_tup (vs := [.str L.form, v1, v2, .int (L.must : Nat), .int (L.never : Nat)]) (ea_cons (ev_prop (ev_var rfl) hb (spv_get hb (fs_form _ _ _ _ _))) (ea_cons (ev_prop (ev_var rfl) hb (spv_get hb (fs_owners _ _ _ _ _))) (ea_cons (ev_prop (ev_var rfl) hb (spv_get hb (fs_groups _ _ _ _ _))) (ea_cons (ev_prop (ev_prop (ev_var rfl) hb (spv_get hb (fs_must _ _ _ _ _))) h1 (spv_get h1 (by simp [List.lookup]))) (ea_cons (ev_prop (ev_prop (ev_var rfl) hb (spv_get hb (fs_never _ _ _ _ _))) h2 (spv_get h2 (by simp [List.lookup]))) ea_nil))))) (by show 5 ≤ 100000; decide)) fun t H1 ht e1 hh => k t H1 ht e1 ⟨v1, v2, hh, k1.mono e1, k2.mono e1⟩
theorem ok_even (T : Txt w K mg a) : FnOk P w K mg base CX0 1 a.f__law_even a.d__law_even ["_law_told"] spEven := by
  refine T.fn__law_even.ok sc__law_even (fun vs H Q E h => ?_) (fun cdv A outer s H vs Q E hr h => ?_)
  · obtain ⟨_, _, _, _, rfl, _⟩ := h
    rfl
  · obtain ⟨t, v1, v2, L, rfl, ht, n1, n2, k⟩ := h
    refine ⟨_, (pss_cons (ps_setLc (i := 1) (own := [("_law_names_here", 2)]) (g := gName 2) rfl sc__law_even.nd rfl rfl (sw_true rfl rfl rfl (by decide +kernel)) (pi_tup (pe_slice sl_tup (pv 0) (po_some pe_int) (po_some pe_int))) (blkOk_by (own := [("_law_names_here", 2)]) (N := n__law_even) (sc := defScope s__law_even) (by decide +kernel)) (fun _ _ _ _ _ => (pg_name (i := 2) sc__law_even.nd rfl (Or.inl rfl))) (fun _ _ _ _ _ => pts_nil) (fun _ _ _ _ _ => (pe_ifExp (pt_cmpR op_isN (pv 2) pe_non (nomark _)) pe_non (pe_callTy (call_tupE (K := K) rfl) (by rfl) T.b_tuple (by decide +kernel) (pa_cons (pe_callB (cr_sortedSE (K := K) rfl) (by rfl) T.b_sorted (by decide +kernel) (pa_cons (pe_lc (own := [("_law_name", 3)]) (g := gName 3) rfl sc__law_even.nd (pi_seq (K := K) rfl (pv 2)) (blkOk_by (own := [("_law_name", 3)]) (N := n__law_even) (sc := ({ kind := .function, names := [((".0" : Str), .local), (("_law_names_here" : Str), .local), (("tuple" : Str), .globalImplicit), (("sorted" : Str), .globalImplicit)], isGenerator := false, isCoroutine := false } : Scope)) (by decide +kernel)) (fun _ _ _ _ _ => (pg_name (i := 3) sc__law_even.nd rfl (Or.inl rfl))) (fun _ _ _ _ _ => pts_nil) (fun _ _ _ _ _ => (pe_callTy (call_strS (K := K) rfl) (by rfl) T.b_str (by decide +kernel) (pa_cons (pv 3) pa_nil)))) pa_nil)) pa_nil)))))
    (pss_one (ps_ret (pe_tup (pa_cons (pe_ix ix_tup (pv 0) pe_int (fun _ _ => rfl)) (pa_cons (pe_ix ix_list (pv 1) pe_int (fun _ _ => rfl)) (pa_cons (pe_ix ix_list (pv 1) pe_int (fun _ _ => rfl)) (pa_cons (pe_ix ix_tup (pv 0) pe_int (fun _ _ => rfl)) (pa_cons (pe_ix ix_tup (pv 0) pe_int (fun _ _ => rfl)) pa_nil))))))))), ?_⟩
    refine q_asgRaw (lc_told (K := K) (xs := [v1, v2]) (B := fun i H y => KeptAt H y (if i = 0 then L.o1 else L.o2)) (ew_is (ew_slT (K := K) (xs := [.str L.form, v1, v2, .int (L.must : Nat), .int (L.never : Nat)]) (ew_of (ev_var rfl) ht) (eo_some ev_c) (eo_some ev_c) (by show ¬ (HT.sIx 5 0 (some 1) = 0 ∧ HT.sIx 5 5 (some 3) = 5); decide)) rfl) (by show 2 ≤ 900; decide) (fun _ => rfl) (fun i H H' y h e => h.mono e) (fun i H y D as bs h hd => kept_stL h hd) (fun i x H1 e1 hx => ?_) fun D ys H1 hD e1 hl all hd => ?_)
    · have : ∃ o, NmQ H1 x o ∧ (if i = 0 then L.o1 else L.o2) = o := by
        match i, hx with
        | 0, hx =>
          cases hx
          exact ⟨L.o1, n1.mono e1, rfl⟩
        | 1, hx =>
          cases hx
          exact ⟨L.o2, n2.mono e1, rfl⟩
        | i + 2, hx => simp at hx
      obtain ⟨o, hn, ho⟩ := this
      rw [ho]
      cases o with
      | none =>
        obtain rfl : x = .non := hn
        exact ep_if (b := true) (et_is (et_test (ev_op (ev_var rfl) ev_c rv_isN)) rfl) (fun _ => ep_ev ev_c fun _ => rfl) fun z => nomatch z
      | some ss =>
        obtain ⟨l, rfl, hl, h64⟩ := hn
        refine ep_if (b := false) (et_is (et_test (ev_op (ev_var rfl) ev_c rv_isN)) (decide_eq_false fun z => nomatch z)) (fun z => nomatch z) fun _ => ep_tupS (K := K) (el_is (el_lcQ (K := K) (xs := ss.map V.str) (fun _ => true) (fun i => ((ss[i]?).map V.str).getD .non) (ev_var rfl) hl (by rw [List.length_map]; omega) (fun _ => rfl) (fun i x H4 e4 hx => et_yes) fun i x H4 e4 hx _ => ?_) ?_) h64
        · rw [List.getElem?_map] at hx
          obtain ⟨s, hs, rfl⟩ := Option.map_eq_some_iff.mp hx
          rw [hs]
          exact fun H5 e5 Q q => ⟨_, rfl, s, rfl, q H5 (Ex.refl H5)⟩
        · rw [given_all, List.length_map]
          refine List.ext_getElem? fun i => ?_
          rw [List.getElem?_map, List.getElem?_map]
          by_cases hi : i < ss.length
          · rw [List.getElem?_eq_getElem (by rw [List.length_range]; exact hi), List.getElem?_eq_getElem hi, List.getElem_range]
            show some (((ss[i]?).map V.str).getD .non) = _
            rw [List.getElem?_eq_getElem hi]
            rfl
          · rw [List.getElem?_eq_none (by rw [List.length_range]; omega), List.getElem?_eq_none (by omega)]
            rfl
    · match ys, hl with
      | [y0, y1], _ =>
        have ht1 := e1 _ _ ht
        exact s_retU (eu_tup (vs := [.str L.form, y0, y1, .int (L.must : Nat), .int (L.never : Nat)]) (ea_cons (ev_op (ev_var rfl) ev_c (rv_ixT (K := K) (st_of ht1) rfl)) (ea_cons (ev_op (ev_var rfl) ev_c (rv_ixL (K := K) (sq_of hd) rfl)) (ea_cons (ev_op (ev_var rfl) ev_c (rv_ixL (K := K) (sq_of hd) rfl)) (ea_cons (ev_op (ev_var rfl) ev_c (rv_ixT (K := K) (st_of ht1) rfl)) (ea_cons (ev_op (ev_var rfl) ev_c (rv_ixT (K := K) (st_of ht1) rfl)) ea_nil))))) (by show 5 ≤ 100000; decide)) fun r H2 hr2 e2 hh => k r H2 (fresh_back e1 hr2) (e1.trans e2) ⟨y0, y1, hh, (all 0 y0 rfl).mono e2, (all 1 y1 rfl).mono e2⟩
end
end KP
set_option Elab.async false
set_option linter.all false
set_option maxRecDepth 100000
set_option maxHeartbeats 4000000
namespace KP
open PySem PySem.Spec PyProof.Rows L2 Evl KF
local macro_rules | `(tactic| walk_at "ev") => `(tactic| repeat' (first | exact ev_c | exact ev_var rfl | exact rv_I0 | refine' rv_I ?_ | refine' rv_eq ?_ | refine' rv_ne ?_ | refine' ev_op ?_ ?_ ?_ | exact ea_nil | refine' ea_cons ?_ ?_ | refine' et_test ?_ | refine' et_B ?_ | refine' et_not ?_ | refine' ev_notV ?_))

open PySem LamX KErr
abbrev qR : Str := "_law_odd_right" ++ ".<locals>." ++ "<lambda>"
abbrev tabsT (a : Ads) : List (Addr × Str) := [(a.PR, qR)]
theorem tabs_uR (a : Ads) : ∀ p ∈ tabsT a, p.1 = a.PR → p.2 = qR := fun p m _ => by
  rw [List.mem_singleton.mp m]
theorem tabs_keep {T : List (Addr × Str)} {H H' : Hp} (t : Tabs T H) (e : Ex H H') : Tabs T H' := LamX.Tabs.ext t e
theorem tabs_pen {T : List (Addr × Str)} {H H' : Hp} {p : Addr} {n : Nat} (t : Tabs T H) (hp : PenAt H p n) (e : ExB p H H') : Tabs T H' := fun q hq => by
  obtain ⟨ps, h1, tr, h2⟩ := t q hq
  obtain ⟨l, ns, at_, rest, hd, _⟩ := hp
  refine ⟨ps, e _ _ h1 (ne_of h1 hd fun z => nomatch z), tr, fun pos cv hc => ?_⟩
  obtain ⟨c, e1, e2⟩ := h2 pos cv hc
  exact ⟨c, e1, e _ _ e2 (ne_of e2 hd fun z => nomatch z)⟩
theorem tab_app {H : Hp} {T : List (Addr × Str)} {l : Addr} {xs ys : List V} (t : Tabs T H) (hl : H l = some (.lst xs)) : Tabs T (upd H l (.lst ys)) := fun q hq => by
  obtain ⟨ps, h1, tr, h2⟩ := t q hq
  refine ⟨ps, by rw [upd_ne (ne_of h1 hl fun z => nomatch z)]; exact h1, tr, fun pos cv hc => ?_⟩
  obtain ⟨c, e1, e2⟩ := h2 pos cv hc
  exact ⟨c, e1, by rw [upd_ne (ne_of e2 hl fun z => nomatch z)]; exact e2⟩
/-! ### a line asked for under the law's own try -/
section
variable {K : PySem.W.Frag} {σ : L2.St} {H : Hp} {te tc : TE} {D a0 dd : Addr} {fs : List (Str × V)} {c v : V} {cv : Value} {b : Bool} {f : Str}
theorem ev_isE (hv : Ev te σ H (.ref a0)) (hc : Ev tc σ H c) (rel : ∀ u, RelV c u → u = cv) (hE : ErrAt H a0 D dd fs) (e : PySem.W.kitOne K (.ref D) cv = some b) : Ev (tCB (rIsE K D) (tCons te (tCons tc tNil))) σ H (.bl b) := fun H1 e1 Q q =>
  hv H1 e1 _ fun H2 e2 => hc H2 (e1.trans e2) _ fun H3 e3 => ⟨a0, dd, fs, c, cv, b, rfl, rel, hE.mono ((e1.trans e2).trans e3), e, q H3 (e2.trans e3)⟩
theorem ev_errF (hv : Ev te σ H (.ref a0)) (hE : ErrAt H a0 D dd fs) (l : fs.lookup f = some v) : Ev (tErrF D f te) σ H v := fun H1 e1 Q q => hv H1 e1 _ fun H2 e2 => ⟨a0, dd, fs, v, rfl, hE.mono (e1.trans e2), l, q H2 e2⟩
end
def PartX (a : Ads) (Q : VK) : XK := fun cls d H' => cls = .ref a.x_BadKind ∧ ∃ (dd : Addr) (n : Nat), d = some dd ∧ H' dd = some (.xd [(("at" : Str), .int (n : Nat))]) ∧ ∀ H'', Ex H' H'' → Q (.int (n : Nat)) H''
def THeard (a : Ads) : (XK → Hp → VK → Prop) → Hp → VK → Prop := fun tl H Q => ∀ Q' : VK, (∀ p H1, (∀ l H2, H1 l = none → Ex H1 H2 → H2 l = some (.lst [.ref p]) → Q (.ref l) H2) → Q' (.ref p) H1) → tl (PartX a Q) H Q'
theorem heard_gives {X : Cx} {a : Ads} {q : Str} {cdv : Value} (T : Txt X.w X.K X.mg a) (hrX : Room 4 X.A) : GivesTo X n__law_heard "_law_heard" (defScope s__law_heard) a.f__law_heard cdv (defBody s__law_heard) "_law_ask" q (THeard a) := by
  intro f c' s H Q tl act hc h
  refine ⟨_, pss_cons (ps_set (i := 1) sc__law_heard.nd rfl (Or.inl rfl) pe_non) (pss_cons (ps_set (i := 2) sc__law_heard.nd rfl (Or.inl rfl) pe_non) (pss_cons (ps_try_keep (X := (cxOf C8.CX0 X.prog X.w X.K X.mg X.base n__law_heard "_law_heard" (defScope s__law_heard) a.f__law_heard cdv X.A X.stack s H C8.E0).nox) (c := .ref a.x_ModesError) (i := 3)
      (tb := fun W D σ H => ∃ Ech : XK, (∀ cls d σ' H', Ech cls d H' → σ'.length = 4 → W cls d σ' H') ∧ σ[0]? = some (some (.ref f)) ∧ H c' = some (CodeO c' q) ∧ tl Ech H fun x H1 => D.nx (σ.set 2 (some x)) H1)
      (ts := fun _ _ _ => tAsg (tVar 3) (gName 1))
      rfl rfl rfl sc__law_heard.nd rfl rfl ⟨rfl, by decide, .inl T.mg_ModesError⟩ (fun W pn xe tk _ => ?body) (fun a0 oe cls d pn hz hf => pss_one (ps_set (i := 1) sc__law_heard.nd rfl (Or.inl rfl) (pv 3)))) (pss_cons (ps_if (pt_cmpR op_isN (pv 1) pe_non (nomark _)) (pss_one (ps_ret (pe_lst (pa_cons (pv 2) pa_nil)))) pss_nil)
    (pss_one (ps_ret (pe_ifExp (PW.pt (pw_and (pt_val (pe_callB (call_isE T.ec_BadKind (cl_of T.ec_BadKind)) (by rfl) T.b_isinstance PyProof.Rows.boot_isinstance (pa_cons (pv 1) (pa_cons (pe_glob (v := .ref a.x_BadKind) rfl T.mg_BadKind rfl) pa_nil)))) (pw_and1 (pt_val (pe_callB (call_isE T.ec_BadKind (cl_of T.ec_BadKind)) (by rfl) T.b_isinstance PyProof.Rows.boot_isinstance (pa_cons (pv 1) (pa_cons (pe_glob (v := .ref a.x_BadInput) rfl T.mg_BadInput rfl) pa_nil))))))) (pe_errF T.ec_BadKind T.np_BadKind (pv 1)) pe_str)))))), ?reading⟩
  case body =>
    refine ⟨fun pins s' σ H' D I h' => ?_⟩
    obtain ⟨Ech, hW, h1, h2, h3⟩ := h'
    exact (pss_one (ps_set (i := 2) sc__law_heard.nd rfl (Or.inl rfl) (act _ pn xe Ech _ _ (takes_len tk) (fun cls d σ' H' e => hW cls d σ' H' e)))).run pins s' σ H' D I ⟨h1, h2, h3⟩
  case reading =>
    refine q_asgRaw (q_asgRaw ?_)
    refine ⟨PartX a Q, fun cls d σ' H' hx len => ?_, rfl, hc, ?_⟩
    · obtain ⟨hcls, dd, n, hd, hxd, kk⟩ := hx
      refine ⟨by rw [hcls]; exact T.em_BadKind, fun a0 oe ha0 hz hf => ?_⟩
      match σ', len with
      | [y0, y1, y2, y3], _ =>
        refine ⟨.ref a0, rfl, ?_⟩
        have hE : ErrAt (upd H' a0 (errO a0 oe)) a0 a.x_BadKind dd [(("at" : Str), .int (n : Nat))] := ⟨oe, upd_same, by rw [hz.1, hcls], by rw [hz.2, hd], hf, by rw [upd_ne (ne_of_none hxd ha0)]; exact hxd⟩
        refine q_when (b := false) (et_is (et_test (ev_op (ev_var (v := .ref a0) rfl) ev_c rv_isN)) (decide_eq_false (fun z => nomatch z))) (fun z => nomatch z) fun _ H2 e2 => ?_
        refine s_ret (v := .int (n : Nat)) (ev_if (b := true) (et_and (a := true) (b := true) (et_B (ev_isE (K := X.K) (ev_var rfl) ev_c (fun u r => r) (hE.mono e2) T.ks_BadKind)) fun _ => et_B (ev_isE (K := X.K) (ev_var rfl) ev_c (fun u r => r) (hE.mono e2) T.ks_BadInput)) (fun _ => ev_errF (ev_var rfl) (hE.mono e2) (by simp [List.lookup])) fun z => nomatch z) fun H3 e3 => kk H3 (((Ex.new ha0).trans e2).trans e3)
    · refine h _ fun b H1 k => ?_
      refine q_when (b := true) (et_is (et_test (ev_op (ev_var (v := .non) rfl) ev_c rv_isN)) rfl) (fun _ H2 e2 => ?_) (fun z => nomatch z)
      exact s_retL (el_lst (vs := [.ref b]) (ea_cons (ev_var rfl) ea_nil) (by show 1 ≤ 100000; decide)) fun l H3 hl e3 h3 => k l H3 (fresh_back e2 hl) (e2.trans e3) h3
/-! what it is -/
mutual
theorem Vw.new {a : Ads} {p b : Addr} {H : Hp} (hb : H b = none) : ∀ (w : Sh) (v : V), Vw a p H v w → Vw a b H v w
  | .non, _, h => by
    cases h
    exact .non
  | .bl b, _, h => by
    cases h
    exact .bl b
  | .int i, _, h => by
    cases h
    exact .int i
  | .str s, _, h => by
    cases h with
    | str _ h => exact .str s h
  | .lst ws, _, h => by
    cases h with
    | lst ne at_ few all => exact .lst (ne_of_none at_ hb) at_ few (VwA.new hb ws _ all)
  | .tup ws, _, h => by
    cases h with
    | tup ne at_ few all => exact .tup (ne_of_none at_ hb) at_ few (VwA.new hb ws _ all)
  | .dct, _, h => by
    cases h with
    | dct ne at_ => exact .dct (ne_of_none at_ hb) at_
  | .mode n, _, h => by
    cases h with
    | mode ne hn at_ =>
      obtain ⟨dx, at_⟩ := at_
      exact .mode (ne_of_none at_ hb) hn ⟨dx, at_⟩
theorem VwA.new {a : Ads} {p b : Addr} {H : Hp} (hb : H b = none) : ∀ (ws : List Sh) (vs : List V), VwA a p H vs ws → VwA a b H vs ws
  | [], _, h => by
    cases h
    exact .nil
  | w :: ws, _, h => by
    cases h with
    | cons h1 h2 => exact .cons (Vw.new hb w _ h1) (VwA.new hb ws _ h2)
end
theorem Args.st {a : Ads} {p : Addr} {H H' : Hp} {v1 v2 v3 v4 v5 : V} {f o g m n : Sh} (h : Args a p H v1 v2 v3 v4 v5 f o g m n) (e : StP p H H') : Args a p H' v1 v2 v3 v4 v5 f o g m n := ⟨Vw.st e _ _ h.h1, Vw.st e _ _ h.h2, Vw.st e _ _ h.h3, Vw.st e _ _ h.h4, Vw.st e _ _ h.h5, h.nf⟩
theorem Args.new {a : Ads} {p b : Addr} {H : Hp} {v1 v2 v3 v4 v5 : V} {f o g m n : Sh} (h : Args a p H v1 v2 v3 v4 v5 f o g m n) (hb : H b = none) : Args a b H v1 v2 v3 v4 v5 f o g m n := ⟨Vw.new hb _ _ h.h1, Vw.new hb _ _ h.h2, Vw.new hb _ _ h.h3, Vw.new hb _ _ h.h4, Vw.new hb _ _ h.h5, h.nf⟩
def HR (a : Ads) (H : Hp) (v : V) (due : Option Nat) (L : Ln) : Prop := match due with
  | some i => v = .int (i : Nat)
  | none => ∃ (l p : Addr), v = .ref l ∧ H l = some (.lst [.ref p]) ∧ LineAt a H p L
theorem LineAt.st {a : Ads} {p : Addr} {n : Nat} {H H' : Hp} {b : Addr} {L : Ln} (h : LineAt a H b L) (pen : PenAt H p n) (e : StP p H H') : LineAt a H' b L := by
  obtain ⟨l, ns, at_, rest, hp, _⟩ := pen
  have mv : ∀ {c : Addr} {u : HO}, H c = some u → u ≠ .lst [.ref l, .int at_, .int rest] → (∀ ps, u ≠ .tbl ps) → H' c = some u := fun {c u} hc nu nt => e _ _ hc (fun z => by rw [z, hp] at hc; cases hc; exact nu rfl) nt
  obtain ⟨dx, v1, v2, m1, m2, h0, k1, k2, ⟨d1, g1⟩, ⟨d2, g2⟩⟩ := h
  have kk : ∀ {v : V} {o : Option (List Str)}, KeptAt H v o → KeptAt H' v o := fun {v o} k => by
    cases o with
    | none => exact k
    | some xs =>
      obtain ⟨q, ys, hv, hm, hs, hq⟩ := k
      exact ⟨q, ys, hv, hm, hs, mv hq (fun z => nomatch z) fun _ z => nomatch z⟩
  exact ⟨dx, v1, v2, m1, m2, mv h0 (fun z => nomatch z) (fun _ z => nomatch z), kk k1, kk k2, ⟨d1, mv g1 (fun z => nomatch z) fun _ z => nomatch z⟩, ⟨d2, mv g2 (fun z => nomatch z) fun _ z => nomatch z⟩⟩
section
variable {T : List (Addr × Str)} {a : Ads} {σ : L2.St} {H : Hp} {Q : VK} {p : Addr} {v1 v2 v3 v4 v5 : V} {f o g m n : Sh} {ta : TA}
theorem heard_making (tabs : Tabs T H) {tl : XK → Hp → VK → Prop} (ag : Args a p H v1 v2 v3 v4 v5 f o g m n) (sub : ∀ (E : XK) (H1 : Hp) (Q' : VK), ExtN H H1 → (∀ b dx H2, H1 b = none → Ex H1 H2 → H2 b = some (.ins a.f_Line dx []) → spLine a [.ref b, v1, v2, v3, v4, v5] H2 (fun v H3 => v = .non ∧ Q' (.ref b) H3) E) → tl E H1 Q')
    (k : ∀ v H', ExtN H H' → Tabs T H' → HR a H' v (dueW f o g m n) (lnOf f o g m n) → Q v H') : Tabs T H ∧ ∀ H1, ExtN H H1 → Tabs T H1 → THeard a tl H1 Q :=
  ⟨tabs, fun H1 eN T1 Q' imp => sub _ _ _ eN fun b dx H2 hb e2 hb2 => by
    refine ⟨b, dx, v1, v2, v3, v4, v5, f, o, g, m, n, rfl, ((ag.st (StP.ofN eN)).new hb).st (StP.of e2), hb2, fun dn H3 ex cl => ⟨rfl, imp b H3 fun l H4 hl e4 h4 => ?_⟩, fun i hn d H3 hd e3 h3 => ⟨rfl, d, i, rfl, h3, fun H4 e4 => ?_⟩⟩
    · have e14 : Ex H1 H4 := fun c o hc => e4 _ _ (ex _ _ (e2 _ _ hc) (ne_of_none hc hb))
      refine k _ H4 (eN.trans (ExtN.of e14)) (tabs_keep T1 e14) ?_
      rw [dn]
      exact ⟨l, b, rfl, h4, cl.mono e4⟩
    · have e14 : Ex H1 H4 := (e2.trans e3).trans e4
      refine k _ H4 (eN.trans (ExtN.of e14)) (tabs_keep T1 e14) ?_
      rw [hn]
      rfl⟩
theorem heard_line (tabs : Tabs T H) (ag : Args a p H v1 v2 v3 v4 v5 f o g m n) (ha : ∀ H1, ExtN H H1 → EvA ta σ H1 [v1, v2, v3, v4, v5]) (k : ∀ v H', ExtN H H' → Tabs T H' → HR a H' v (dueW f o g m n) (lnOf f o g m n) → Q v H') :
    tLam T (THeard a) (fun E => tMake a.f_Line (spLine a) [] E ta) σ H Q :=
  heard_making tabs ag (fun E H1 Q' eN h => ha H1 eN H1 (Ex.refl _) _ fun H2 e2 b db hb hdb hne => by
    have hb2 : upd H2 db (.own b) b = none := by rw [upd_ne (Ne.symm hne)]; exact hb
    have en : Ex H2 (upd (upd H2 db (.own b)) b (.ins a.f_Line db [])) := (Ex.new hdb).trans (Ex.new hb2)
    exact h b db _ (fresh_back e2 hb) (e2.trans en) upd_same) k
def gL {α : Type} (us _ds ws : List α) : List α := match us, ws with
  | [x], [n, m, g, o, f] => [x, f, o, g, m, n]
  | _, _ => []
theorem kb_line {w : World} {K : PySem.W.Frag} {mg : Str → Option Value} {a : Ads} (T : Txt w K mg a) : ∃ its : List Value, KBn K a.d_LineD_initD ["self", "form", "owners", "groups", "must", "never"] 1 ["never", "must", "groups", "owners", "form"] (fun us ws => gL us its ws) (fun vs zs => gL vs [.non, .non, .int 0, .int 0] zs) :=
  T.fn_LineD_initD.kbindsD 1 ["never", "must", "groups", "owners", "form"] (fun {α} us ds ws => gL us ds ws) (by decide) (fun {vs ds zs us its ws} r1 _ r3 => by
    match vs, us, r1, zs, ws, r3 with
    | [_], [_], .cons h .nil, [_, _, _, _, _], [_, _, _, _, _], .cons h1 (.cons h2 (.cons h3 (.cons h4 (.cons h5 .nil)))) => exact .cons h (.cons h5 (.cons h4 (.cons h3 (.cons h2 (.cons h1 .nil)))))
    | [], [], .nil, _, _, _ => exact .nil
    | _ :: _ :: _, _ :: _ :: _, .cons _ (.cons _ _), _, _, _ => exact .nil
    | [_], [_], .cons _ .nil, [], [], .nil => exact .nil
    | [_], [_], .cons _ .nil, [_], [_], .cons _ .nil => exact .nil
    | [_], [_], .cons _ .nil, [_, _], [_, _], .cons _ (.cons _ .nil) => exact .nil
    | [_], [_], .cons _ .nil, [_, _, _], [_, _, _], .cons _ (.cons _ (.cons _ .nil)) => exact .nil
    | [_], [_], .cons _ .nil, [_, _, _, _], [_, _, _, _], .cons _ (.cons _ (.cons _ (.cons _ .nil))) => exact .nil
    | [_], [_], .cons _ .nil, _ :: _ :: _ :: _ :: _ :: _ :: _, _ :: _ :: _ :: _ :: _ :: _ :: _, .cons _ (.cons _ (.cons _ (.cons _ (.cons _ (.cons _ _))))) => exact .nil)
    fun _ _ _ _ _ _ _ us its ws hu hi hw => match us, its, ws, hu, hi, hw with | [_], [_, _, _, _], [_, _, _, _, _], _, _, _ => ⟨_, rfl, rfl⟩
theorem heard_lineK (tabs : Tabs T H) (ag : Args a p H v1 v2 v3 v4 v5 f o g m n) (ha : ∀ H1, ExtN H H1 → EvA ta σ H1 [v5, v4, v3, v2, v1]) (k : ∀ v H', ExtN H H' → Tabs T H' → HR a H' v (dueW f o g m n) (lnOf f o g m n) → Q v H') :
    tLam T (THeard a) (fun E => tMakeK a.f_Line 0 5 (spLine a) (fun vs zs => gL vs [.non, .non, .int 0, .int 0] zs) E tNil ta) σ H Q :=
  heard_making tabs ag (fun E H1 Q' eN h => ha H1 eN H1 (Ex.refl _) _ fun H2 e2 => ⟨rfl, rfl, fun b db hb hdb hne => by
    have hb2 : upd H2 db (.own b) b = none := by rw [upd_ne (Ne.symm hne)]; exact hb
    have en : Ex H2 (upd (upd H2 db (.own b)) b (.ins a.f_Line db [])) := (Ex.new hdb).trans (Ex.new hb2)
    exact h b db _ (fresh_back e2 hb) (e2.trans en) upd_same⟩) k
end
end KP
set_option Elab.async false
set_option linter.all false
set_option maxRecDepth 100000
set_option maxHeartbeats 4000000
namespace KP
open PySem PySem.Spec PyProof.Rows L2 Evl KF
local macro_rules | `(tactic| walk_at "ev") => `(tactic| repeat' (first | exact ev_c | exact ev_var rfl | exact rv_I0 | refine' rv_I ?_ | refine' rv_eq ?_ | refine' rv_ne ?_ | refine' ev_op ?_ ?_ ?_ | exact ea_nil | refine' ea_cons ?_ ?_ | refine' et_test ?_ | refine' et_B ?_ | refine' et_not ?_ | refine' ev_notV ?_))

open PySem LamX
/-! ### odd values -/
mutual
theorem Vw.st2 {a : Ads} {p q : Addr} {H H' : Hp} (e : ∀ b o, H b = some o → b ≠ p → b ≠ q → (∀ ps, o ≠ .tbl ps) → H' b = some o) : ∀ (w : Sh) (v : V), Vw a p H v w → Vw a q H v w → Vw a p H' v w ∧ Vw a q H' v w
  | .non, _, h, _ => by
    cases h
    exact ⟨.non, .non⟩
  | .bl b, _, h, _ => by
    cases h
    exact ⟨.bl b, .bl b⟩
  | .int i, _, h, _ => by
    cases h
    exact ⟨.int i, .int i⟩
  | .str s, _, h, _ => by
    cases h with
    | str _ h => exact ⟨.str s h, .str s h⟩
  | .lst ws, _, h, k => by
    cases h with
    | lst ne at_ few all =>
      cases k with
      | lst ne2 at2 _ all2 =>
        rw [at_] at at2
        cases at2
        obtain ⟨h1, h2⟩ := VwA.st2 e ws _ all all2
        have hl := e _ _ at_ ne ne2 (fun _ z => nomatch z)
        exact ⟨.lst ne hl few h1, .lst ne2 hl few h2⟩
  | .tup ws, _, h, k => by
    cases h with
    | tup ne at_ few all =>
      cases k with
      | tup ne2 at2 _ all2 =>
        rw [at_] at at2
        cases at2
        obtain ⟨h1, h2⟩ := VwA.st2 e ws _ all all2
        have hl := e _ _ at_ ne ne2 (fun _ z => nomatch z)
        exact ⟨.tup ne hl few h1, .tup ne2 hl few h2⟩
  | .dct, _, h, k => by
    cases h with
    | dct ne at_ =>
      cases k with
      | dct ne2 _ =>
        have hl := e _ _ at_ ne ne2 (fun _ z => nomatch z)
        exact ⟨.dct ne hl, .dct ne2 hl⟩
  | .mode n, _, h, k => by
    cases h with
    | mode ne hn at_ =>
      cases k with
      | mode ne2 _ _ =>
        obtain ⟨dx, at_⟩ := at_
        have hl := e _ _ at_ ne ne2 (fun _ z => nomatch z)
        exact ⟨.mode ne hn ⟨dx, hl⟩, .mode ne2 hn ⟨dx, hl⟩⟩
theorem VwA.st2 {a : Ads} {p q : Addr} {H H' : Hp} (e : ∀ b o, H b = some o → b ≠ p → b ≠ q → (∀ ps, o ≠ .tbl ps) → H' b = some o) : ∀ (ws : List Sh) (vs : List V), VwA a p H vs ws → VwA a q H vs ws → VwA a p H' vs ws ∧ VwA a q H' vs ws
  | [], _, h, _ => by
    cases h
    exact ⟨.nil, .nil⟩
  | w :: ws, _, h, k => by
    cases h with
    | cons h1 h2 =>
      cases k with
      | cons k1 k2 =>
        obtain ⟨a1, b1⟩ := Vw.st2 e w _ h1 k1
        obtain ⟨a2, b2⟩ := VwA.st2 e ws _ h2 k2
        exact ⟨.cons a1 a2, .cons b1 b2⟩
end
/-- some value that is no Mode -/
def Bp (a : Ads) (p : Addr) (H : Hp) (x : V) : Prop := ∃ s, Vw a p H x s ∧ isM s = false
theorem Bp.st {a : Ads} {p : Addr} {H H' : Hp} {x : V} (h : Bp a p H x) (e : StP p H H') : Bp a p H' x := let ⟨s, h1, h2⟩ := h; ⟨s, Vw.st e _ _ h1, h2⟩
/-- the same, at neither p nor q -/
def B2 (a : Ads) (p q : Addr) (H : Hp) (x : V) : Prop := ∃ s, Vw a p H x s ∧ Vw a q H x s ∧ isM s = false
theorem B2.st {a : Ads} {p q : Addr} {H H' : Hp} {x : V} (h : B2 a p q H x) (e : ∀ b o, H b = some o → b ≠ p → b ≠ q → (∀ ps, o ≠ .tbl ps) → H' b = some o) : B2 a p q H' x := let ⟨s, h1, h2, h3⟩ := h; let ⟨k1, k2⟩ := Vw.st2 e _ _ h1 h2; ⟨s, k1, k2, h3⟩
theorem Bp.two {a : Ads} {p q : Addr} {H : Hp} {x : V} (h : Bp a p H x) (hq : H q = none) : B2 a p q H x := let ⟨s, h1, h2⟩ := h; ⟨s, h1, Vw.new hq _ _ h1, h2⟩
theorem vwA_of {a : Ads} {p : Addr} {H : Hp} : ∀ {xs : List V}, (∀ x ∈ xs, Bp a p H x) → ∃ ws, VwA a p H xs ws
  | [], _ => ⟨[], .nil⟩
  | x :: xs, h => by
    obtain ⟨s, hs, _⟩ := h x (List.mem_cons_self ..)
    obtain ⟨ws, hw⟩ := vwA_of (xs := xs) fun y hy => h y (List.mem_cons_of_mem _ hy)
    exact ⟨s :: ws, .cons hs hw⟩
def EvB (B : Hp → V → Prop) (te : TE) (σ : L2.St) (H : Hp) : Prop := ∀ H1, Ex H H1 → ∀ Q : VK, (∀ x H2, Ex H1 H2 → B H2 x → Q x H2) → te σ H1 Q
def EvBs (B : Hp → V → Prop) (ta : TA) (σ : L2.St) (H : Hp) (n : Nat) : Prop := ∀ H1, Ex H H1 → ∀ Q : List V → Hp → Prop, (∀ xs H2, Ex H1 H2 → xs.length = n → (∀ x ∈ xs, B H2 x) → Q xs H2) → ta σ H1 Q
section
variable {K : PySem.W.Frag} {σ : L2.St} {H : Hp} {te t1 t2 : TE} {ta : TA} {a : Ads} {p lc : Addr} {n k : Nat} {x : V} {xs : List V} {Q : VK} {E : XK} {D : Ends} {tz : TS} {i j : Nat}
theorem ebs_nil {B : Hp → V → Prop} : EvBs B tNil σ H 0 := fun H1 _ Q q => q [] H1 (Ex.refl H1) rfl (fun _ z => nomatch z)
theorem ebs_cons (h : EvB (Bp a p) te σ H) (r : EvBs (Bp a p) ta σ H n) : EvBs (Bp a p) (tCons te ta) σ H (n + 1) := fun H1 e Q q =>
  h H1 e _ fun x H2 e2 bx => r H2 (e.trans e2) _ fun xs H3 e3 l all => q (x :: xs) H3 (e2.trans e3) (by rw [List.length_cons, l]) fun z hz => by
    rcases List.mem_cons.mp hz with rfl | hz
    · exact bx.st (StP.of e3)
    · exact all z hz
theorem eb_v (h : Ev te σ H x) (b : ∀ H1, Bp a p H1 x) : EvB (Bp a p) te σ H := fun H1 e Q q => h H1 e _ fun H2 e2 => q x H2 e2 (b H2)
theorem bp_non : Bp a p H .non := ⟨.non, .non, rfl⟩
theorem bp_bl {b : Bool} : Bp a p H (.bl b) := ⟨_, .bl b, rfl⟩
theorem bp_int {i : Int} : Bp a p H (.int i) := ⟨_, .int i, rfl⟩
theorem bp_str {s : Str} (h : s.cps.size ≤ 1000) : Bp a p H (.str s) := ⟨_, .str s h, rfl⟩
theorem eb_lst (pen : PenAt H p n) (h : EvBs (Bp a p) ta σ H k) (hk : k ≤ 16) : EvB (Bp a p) (tLst ta) σ H := fun H1 e Q q => h H1 e _ fun xs H2 e2 l all => ⟨by rw [l, sizeLine_eq]; omega, fun c hc => by
  obtain ⟨ws, hw⟩ := vwA_of all
  have en := Ex.new hc (o := .lst xs)
  have pen2 : PenAt H2 p n := pen.keep (e.trans e2)
  exact q _ _ (e2.trans en) ⟨.lst ws, .lst (pen2.ne_new hc) upd_same (by rw [← hw.len, l]; exact hk) (hw.mono en), rfl⟩⟩
theorem eb_ofL (pen : PenAt H p n) (h : EvL te σ H xs) (all : ∀ H1, ∀ x ∈ xs, Bp a p H1 x) (hk : xs.length ≤ 16) : EvB (Bp a p) te σ H := fun H1 e Q q => h H1 e _ fun c H2 hc e2 h2 => by
  obtain ⟨ws, hw⟩ := vwA_of (all H2)
  have pen1 : PenAt H1 p n := pen.keep e
  exact q _ _ e2 ⟨.lst ws, .lst (pen1.ne_new hc) h2 (by rw [← hw.len]; exact hk) hw, rfl⟩
theorem eb_ofU (pen : PenAt H p n) (h : EvU te σ H xs) (all : ∀ H1, ∀ x ∈ xs, Bp a p H1 x) (hk : xs.length ≤ 16) : EvB (Bp a p) te σ H := fun H1 e Q q => h H1 e _ fun c H2 hc e2 h2 => by
  obtain ⟨ws, hw⟩ := vwA_of (all H2)
  have pen1 : PenAt H1 p n := pen.keep e
  exact q _ _ e2 ⟨.tup ws, .tup (pen1.ne_new hc) h2 (by rw [← hw.len]; exact hk) hw, rfl⟩
theorem eb_dict (pen : PenAt H p n) : EvB (Bp a p) tDNewK σ H := fun H1 e Q q c hc => by
  have pen1 : PenAt H1 p n := pen.keep e
  exact q _ _ (Ex.new hc) ⟨.dct, .dct (pen1.ne_new hc) upd_same, rfl⟩
theorem q_asgBs (h : EvBs (Bp a p) ta σ H k) (hk : k ≤ 900) (q : ∀ l xs H1, H l = none → Ex H H1 → xs.length = k → (∀ x ∈ xs, Bp a p H1 x) → H1 l = some (.lst xs) → tz D (σ.set j (some (.ref l))) H1) : tSeq (tAsg (tLst ta) (gName j)) tz D σ H :=
  h H (Ex.refl H) _ fun xs H1 e l all => ⟨by rw [l, sizeLine_eq]; omega, fun c hc => q c xs _ (fresh_back e hc) (e.trans (Ex.new hc)) l (fun x hx => (all x hx).st (StP.of (Ex.new hc))) upd_same⟩
/-- one of a list display -/
theorem pk_disp (hi : σ[i]? = some (some (.ref p))) (pen : PenL H p lc n) (hn : n < 100000) (h : EvBs (Bp a p) ta σ H k) (h0 : 0 < k) (h1 : k ≤ 900) (q : ∀ x H', Bp a p H' x → ExP p H H' → PenL H' p lc (n + 1) → Q x H') : tCall spPick [] E (tCons (tVar i) (tCons (tLst ta) tNil)) σ H Q :=
  pick_raw hi (h H (Ex.refl H) _ fun xs H1 e1 l all => ⟨by rw [l, sizeLine_eq]; omega, fun s hs => by
    have en := Ex.new hs (o := .lst xs)
    exact pk_list (lc := lc) ((pen.keep e1).keep en) hn upd_same ((pen.keep e1).pen.ne_new hs) (by omega) (by omega) fun x H' hx e2 pen2 => q x H' (((all x hx).st (StP.of en)).st (StP.ofB e2.ex)) ((ExP.of (e1.trans en)).trans e2) pen2⟩)
/-- one of a list at hand -/
theorem pk_at {l : Addr} (hi : σ[i]? = some (some (.ref p))) (pen : PenL H p lc n) (hn : n < 100000) (hj : σ[j]? = some (some (.ref l))) (hl : H l = some (.lst xs)) (lp : l ≠ p) (all : ∀ x ∈ xs, Bp a p H x) (h0 : 0 < xs.length) (h1 : xs.length ≤ 900) (q : ∀ x H', Bp a p H' x → ExP p H H' → PenL H' p lc (n + 1) → Q x H') : tCall spPick [] E (tCons (tVar i) (tCons (tVar j) tNil)) σ H Q :=
  pick_raw hi ⟨.ref l, hj, pk_list (lc := lc) pen hn hl lp h0 (by omega) fun x H' hx e2 pen2 => q x H' ((all x hx).st (StP.ofB e2.ex)) e2 pen2⟩
/-- one of a list at hand and some more -/
theorem pk_more {l : Addr} (hi : σ[i]? = some (some (.ref p))) (pen : PenL H p lc n) (hn : n < 100000) (hj : σ[j]? = some (some (.ref l))) (hl : H l = some (.lst xs)) (all : ∀ x ∈ xs, Bp a p H x) (h : EvBs (Bp a p) ta σ H k) (h0 : 0 < xs.length + k) (h1 : xs.length + k ≤ 900) (q : ∀ x H', Bp a p H' x → ExP p H H' → PenL H' p lc (n + 1) → Q x H') : tCall spPick [] E (tCons (tVar i) (tCons (tOp rCat (tVar j) (tLst ta)) tNil)) σ H Q :=
  pick_raw hi ⟨.ref l, hj, h H (Ex.refl H) _ fun ys H1 e1 ly ally => ⟨by rw [ly, sizeLine_eq]; omega, fun s hs => by
    have en := Ex.new hs (o := .lst ys)
    refine ⟨l, s, xs, ys, rfl, rfl, en _ _ (e1 _ _ hl), upd_same, by rw [sizeLine_eq]; omega, fun c hc => ?_⟩
    have en2 := Ex.new hc (o := .lst (xs ++ ys))
    have e3 := (e1.trans en).trans en2
    refine pk_list (lc := lc) (pen.keep e3) hn upd_same (((pen.keep e1).keep en).pen.ne_new hc) (by rw [List.length_append]; omega) (by rw [List.length_append]; omega) fun x H' hx e2 pen2 => ?_
    have bx : Bp a p (upd (upd H1 s (.lst ys)) c (.lst (xs ++ ys))) x := by
      rcases List.mem_append.mp hx with hx | hx
      · exact (all x hx).st (StP.of e3)
      · exact (ally x hx).st (StP.of (en.trans en2))
    exact q x H' (bx.st (StP.ofB e2.ex)) ((ExP.of e3).trans e2) pen2⟩⟩
theorem q_lst2 (h : t1 σ H fun v H1 => t2 σ H1 fun w H2 => [v, w].length ≤ sizeLine ∧ ∀ c, H2 c = none → tz D (σ.set i (some (.ref c))) (upd H2 c (.lst [v, w]))) : tSeq (tAsg (tLst (tCons t1 (tCons t2 tNil))) (gName i)) tz D σ H := h
theorem q_lst1 (h : t1 σ H fun v H1 => [v].length ≤ sizeLine ∧ ∀ c, H1 c = none → tz D (σ.set i (some (.ref c))) (upd H1 c (.lst [v]))) : tSeq (tAsg (tLst (tCons t1 tNil)) (gName i)) tz D σ H := h
theorem q_cat2 {l : Addr} (hj : σ[j]? = some (some (.ref l))) (h : t1 σ H fun v H1 => t2 σ H1 fun w H2 => [v, w].length ≤ sizeLine ∧ ∀ c, H2 c = none → ∃ b d xs zs, V.ref l = .ref b ∧ V.ref c = .ref d ∧ upd H2 c (.lst [v, w]) b = some (.lst xs) ∧ upd H2 c (.lst [v, w]) d = some (.lst zs) ∧ xs.length + zs.length ≤ sizeLine ∧ ∀ e, upd H2 c (.lst [v, w]) e = none → tz D (σ.set i (some (.ref e))) (upd (upd H2 c (.lst [v, w])) e (.lst (xs ++ zs)))) :
    tSeq (tAsg (tOp rCat (tVar j) (tLst (tCons t1 (tCons t2 tNil)))) (gName i)) tz D σ H := ⟨.ref l, hj, h⟩
theorem ix_tupE {X : Cx} (h : X.K = K) : IxR X (rIxT K) := h ▸ ix_tup
/-- for each k: one of the odd values, or what is told -/
theorem lc_some {l t : Addr} {xs zs : List V} {r : R2} (hr : r = rEq) (h0 : σ[0]? = some (some (.ref p))) (w0 : ∀ x, ((wipe σ [12]).set 12 (some x))[0]? = some (some (.ref p))) (w5 : ∀ x, ((wipe σ [12]).set 12 (some x))[5]? = some (some (.ref l))) (w1 : ∀ x, ((wipe σ [12]).set 12 (some x))[1]? = some (some (.ref t))) (w12 : ∀ x, ((wipe σ [12]).set 12 (some x))[12]? = some (some x)) (hw : ∀ x, wipe ((wipe σ [12]).set 12 (some x)) [12] = wipe σ [12])
    (pen : PenL H p lc n) (hn : n + 5 ≤ 99999) (hl : H l = some (.lst xs)) (lp : l ≠ p) (ht : H t = some (.tup zs)) (tp : t ≠ p) (lx : xs.length = 5) (lz : zs.length = 5) (ax : ∀ x ∈ xs, Bp a p H x) (az : ∀ x ∈ zs, Bp a p H x)
    (q : ∀ d ys H', H d = none → ys.length = 5 → (∀ y ∈ ys, B2 a p d H' y) → ExP p H H' → PenL H' p lc (n + 5) → H' d = some (.lst ys) → Q (.ref d) H') :
    tLc (iRng1 (tCons (tC (.int 5)) tNil)) (gName 12) tYes (tIf (tTest (tOp r (tCall spDraw [] E (tCons (tVar 0) (tCons (tC (.int 6)) tNil))) (tC (.int 0)))) (tOp (rIxL K) (tVar 5) (tVar 12)) (tOp (rIxT K) (tVar 1) (tVar 12))) [12] σ H Q := by
  subst hr
  refine ⟨5, rfl, by decide, by decide, fun d hd => ?_⟩
  have np := (pen.ne hd).1
  have nl := (pen.ne hd).2
  refine lc_range (lo := 0) (n := 5) (fun i H' => ∃ ys : List V, ys.length = i ∧ (∀ x, x ∈ xs ∨ x ∈ zs ∨ x ∈ ys → B2 a p d H' x) ∧ ExP p H H' ∧ PenL H' p lc (n + i) ∧ H' d = some (.lst ys) ∧ H' l = some (.lst xs) ∧ H' t = some (.tup zs)) ⟨[], rfl, fun x hx => ?_, ExP.of (Ex.new hd), pen.keep (Ex.new hd), upd_same, Ex.new hd _ _ hl, Ex.new hd _ _ ht⟩ (fun i H' hi' qq => ⟨hw _, (et_yes : EvT tYes _ H' true) H' (Ex.refl _) _ fun H2 e2 => ?_⟩) (fun H' qq => ?_)
  · have bx : Bp a p H x := by
      rcases hx with hx | hx | hx
      · exact ax x hx
      · exact az x hx
      · exact nomatch hx
    exact (bx.two hd).st fun b o hb _ _ _ => Ex.new hd _ _ hb
  · obtain ⟨ys, ly, all, e, pen1, hd1, hl1, ht1⟩ := qq
    have all := fun x hx => (all x hx).st (H' := H2) fun b o hb _ _ _ => e2 _ _ hb
    have e := e.trans (ExP.of e2)
    have pen1 := pen1.keep e2
    have hd1 := e2 _ _ hd1
    have hl1 := e2 _ _ hl1
    have ht1 := e2 _ _ ht1
    rw [if_pos rfl]
    refine draw_r (lc := lc) 6 (w0 _) ev_c pen1 (by omega) (by decide) (by decide) fun c H3 hc e3 pen3 => ⟨rfl, decide (V.int (c : Nat) = V.int 0), rfl, ?_⟩
    have all3 := fun x hx => (all x hx).st (H' := H3) fun b o hb n1 _ _ => e3.ex _ _ hb n1
    have hd3 := e3.ex _ _ hd1 (Ne.symm np)
    have hl3 := e3.ex _ _ hl1 lp
    have ht3 := e3.ex _ _ ht1 tp
    have step : ∀ y, (y ∈ xs ∨ y ∈ zs) → ∀ H4, Ex H3 H4 → ∃ acc, H4 d = some (.lst acc) ∧ acc.length < sizeLine ∧ ∃ ys : List V, ys.length = i + 1 ∧ (∀ x, x ∈ xs ∨ x ∈ zs ∨ x ∈ ys → B2 a p d (upd H4 d (.lst (acc ++ [y]))) x) ∧ ExP p H (upd H4 d (.lst (acc ++ [y]))) ∧ PenL (upd H4 d (.lst (acc ++ [y]))) p lc (n + (i + 1)) ∧ (upd H4 d (.lst (acc ++ [y]))) d = some (.lst ys) ∧ (upd H4 d (.lst (acc ++ [y]))) l = some (.lst xs) ∧ (upd H4 d (.lst (acc ++ [y]))) t = some (.tup zs) := fun y hy H4 e4 => by
      have ld : l ≠ d := fun z => by rw [z, hd] at hl; cases hl
      have td : t ≠ d := fun z => by rw [z, hd] at ht; cases ht
      refine ⟨ys, e4 _ _ hd3, by rw [ly, sizeLine_eq]; omega, ys ++ [y], by rw [List.length_append, ly]; rfl, fun x hx => ?_, ⟨fun b o hb ne => ?_, fun l2 x2 y2 h2 => ?_⟩, (pen3.keep e4).upd np nl, upd_same, by rw [upd_ne ld]; exact e4 _ _ hl3, by rw [upd_ne td]; exact e4 _ _ ht3⟩
      · have bx : B2 a p d H3 x := by
          rcases hx with hx | hx | hx
          · exact all3 x (.inl hx)
          · exact all3 x (.inr (.inl hx))
          · rcases List.mem_append.mp hx with hx | hx
            · exact all3 x (.inr (.inr hx))
            · rw [List.mem_singleton.mp hx]
              exact all3 y (hy.imp id .inl)
        exact bx.st fun b o hb _ n2 _ => by rw [upd_ne n2]; exact e4 _ _ hb
      · rw [upd_ne (ne_of_none hb hd)]
        exact e4 _ _ ((e.trans e3).ex _ _ hb ne)
      · obtain ⟨x3, y3, h3⟩ := (e.trans e3).fix l2 x2 y2 h2
        exact ⟨x3, y3, by rw [upd_ne np]; exact e4 _ _ h3⟩
    have ei : ((0 : Int) + (i : Int)) = (i : Int) := Int.zero_add _
    refine iteC (fun _ => ?_) fun _ => ?_
    · have hx : atI xs ((0 : Int) + (i : Int)) = some xs[i] := by rw [ei]; exact atI_nat (List.getElem?_eq_getElem (by omega))
      exact ⟨.ref l, w5 _, _, w12 _, l, xs, _, xs[i], rfl, rfl, sq_of hl3, hx, step _ (.inl (List.getElem_mem _)) H3 (Ex.refl _)⟩
    · have hx : atI zs ((0 : Int) + (i : Int)) = some zs[i] := by rw [ei]; exact atI_nat (List.getElem?_eq_getElem (by omega))
      exact ⟨.ref t, w1 _, _, w12 _, t, zs, _, zs[i], rfl, rfl, st_of ht3, hx, step _ (.inr (List.getElem_mem _)) H3 (Ex.refl _)⟩
  · obtain ⟨ys, ly, all, e, pen1, hd1, _, _⟩ := qq
    exact q d ys H' hd ly (fun y hy => all y (.inr (.inr hy))) e pen1 hd1
theorem ebs_one {B : Hp → V → Prop} (h : EvB B te σ H) : EvBs B (tCons te tNil) σ H 1 := fun H1 e Q q => h H1 e _ fun x H2 e2 bx => q [x] H2 e2 rfl fun y hy => by
  rw [List.mem_singleton.mp hy]
  exact bx
theorem pk_moreB {B : Hp → V → Prop} (stB : ∀ H H' x, B H x → (∀ b o, H b = some o → b ≠ p → H' b = some o) → B H' x) {l : Addr} (hi : σ[i]? = some (some (.ref p))) (pen : PenL H p lc n) (hn : n < 100000) (hj : σ[j]? = some (some (.ref l))) (hl : H l = some (.lst xs)) (all : ∀ x ∈ xs, B H x) (h : EvBs B ta σ H k) (h0 : 0 < xs.length + k) (h1 : xs.length + k ≤ 900) (q : ∀ x H', B H' x → ExP p H H' → PenL H' p lc (n + 1) → Q x H') : tCall spPick [] E (tCons (tVar i) (tCons (tOp rCat (tVar j) (tLst ta)) tNil)) σ H Q :=
  pick_raw hi ⟨.ref l, hj, h H (Ex.refl H) _ fun ys H1 e1 ly ally => ⟨by rw [ly, sizeLine_eq]; omega, fun s hs => by
    have en := Ex.new hs (o := .lst ys)
    refine ⟨l, s, xs, ys, rfl, rfl, en _ _ (e1 _ _ hl), upd_same, by rw [sizeLine_eq]; omega, fun c hc => ?_⟩
    have en2 := Ex.new hc (o := .lst (xs ++ ys))
    have e3 := (e1.trans en).trans en2
    refine pk_list (lc := lc) (pen.keep e3) hn upd_same (((pen.keep e1).keep en).pen.ne_new hc) (by rw [List.length_append]; omega) (by rw [List.length_append]; omega) fun x H' hx e2 pen2 => ?_
    have bx : B (upd (upd H1 s (.lst ys)) c (.lst (xs ++ ys))) x := by
      rcases List.mem_append.mp hx with hx | hx
      · exact stB _ _ _ (all x hx) fun b o hb _ => e3 _ _ hb
      · exact stB _ _ _ (ally x hx) fun b o hb _ => (en.trans en2) _ _ hb
    exact q x H' (stB _ _ _ bx e2.ex) ((ExP.of e3).trans e2) pen2⟩⟩
/-- a list in a list -/
theorem eb_deep {q : Addr} {s : Str} {op oq : HO} (hs : s.cps.size ≤ 1000) (hp : H p = some op) (hq : H q = some oq) : EvB (B2 a p q) (tLst (tCons (tLst (tCons (tC (.str s)) tNil)) tNil)) σ H := fun H1 e Q k =>
  ⟨by show 1 ≤ sizeLine; rw [sizeLine_eq]; omega, fun c hc => ⟨by show 1 ≤ sizeLine; rw [sizeLine_eq]; omega, fun d hd => by
    have ec := Ex.new hc (o := .lst [.str s])
    have ed := Ex.new hd (o := .lst [.ref c])
    have key : ∀ {r : Addr} {o : HO}, H r = some o → Vw a r (upd (upd H1 c (.lst [.str s])) d (.lst [.ref c])) (.ref d) (.lst [.lst [.str s]]) := fun {r o} hr =>
      .lst (ne_of_none (ec _ _ (e _ _ hr)) hd).symm upd_same (by show 1 ≤ 16; decide) (.cons (.lst (ne_of_none (e _ _ hr) hc).symm (ed _ _ upd_same) (by show 1 ≤ 16; decide) (.cons (.str s hs) .nil)) .nil)
    exact k _ _ (ec.trans ed) ⟨_, key hp, key hq, rfl⟩⟩⟩
theorem el_rep (ha : EvL t1 σ H xs) (hb : Ev t2 σ H (.int (k : Nat))) (hk : k ≤ 100) (hz : xs.length * k ≤ 100000) : EvL (tOp rRep t1 t2) σ H (List.replicate k xs).flatten := fun H1 e Q q =>
  ha H1 e _ fun p H2 _ e2 h2 => hb H2 (e.trans e2) _ fun H3 e3 => ⟨p, (k : Nat), xs, rfl, rfl, e3 _ _ h2, by omega, by omega, sz_of (by simpa using hz), fun l hl => q l _ (fresh_back (e2.trans e3) hl) ((e2.trans e3).trans (Ex.new hl)) (by rw [upd_same]; rfl)⟩
theorem B2.fst {q : Addr} (h : B2 a p q H x) : Bp a p H x := let ⟨s, h1, _, h3⟩ := h; ⟨s, h1, h3⟩
theorem b2_stB {q : Addr} : ∀ H H' x, B2 a p q H x → (∀ b o, H b = some o → b ≠ p → H' b = some o) → B2 a p q H' x := fun _ _ _ h e => h.st fun b o hb n _ _ => e b o hb n
theorem ExP.old {H' : Hp} (e : ExP p H H') {c : Addr} (hc : H' c = none) (cp : c ≠ p) : H c = none := by
  cases z : H c with
  | none => rfl
  | some o =>
    have := e.ex _ _ z cp
    rw [hc] at this
    cases this
theorem ExP.mut {H' : Hp} {c : Addr} {o : HO} (e : ExP p H H') (hc : H c = none) (cp : c ≠ p) : ExP p H (upd H' c o) := ⟨fun b u hb ne => by
  rw [upd_ne (ne_of_none hb hc)]
  exact e.ex _ _ hb ne, fun l y z h => by
  obtain ⟨y', z', h'⟩ := e.fix l y z h
  exact ⟨y', z', by rw [upd_ne (Ne.symm cp)]; exact h'⟩⟩
theorem tabs_pen2 {T : List (Addr × Str)} {H' : Hp} (t : Tabs T H) (pen : PenL H p lc n) (e : ExP p H H') : Tabs T H' := tabs_pen t pen.pen e.ex
end
end KP
set_option Elab.async false
set_option linter.all false
set_option maxRecDepth 100000
set_option maxHeartbeats 4000000
namespace KP
open PySem PySem.Spec PyProof.Rows L2 Evl KF
local macro_rules | `(tactic| walk_at "ev") => `(tactic| repeat' (first | exact ev_c | exact ev_var rfl | exact rv_I0 | refine' rv_I ?_ | refine' rv_eq ?_ | refine' rv_ne ?_ | refine' ev_op ?_ ?_ ?_ | exact ea_nil | refine' ea_cons ?_ ?_ | refine' et_test ?_ | refine' et_B ?_ | refine' et_not ?_ | refine' ev_notV ?_))

open PySem LamX
/-! ### the five things, in a list at lp -/
structure PS (a : Ads) (p lp : Addr) (H : Hp) (vs : List V) (ss : List Sh) : Prop where
  at_ : H lp = some (.lst vs)
  v1 : VwA a p H vs ss
  v2 : VwA a lp H vs ss
  len : ss.length = 5
  form : ∃ s r, ss = s :: r ∧ isM s = false
theorem VwA.set {a : Ads} {p : Addr} {H : Hp} {v : V} {s : Sh} (hv : Vw a p H v s) : ∀ {vs : List V} {ss : List Sh} (j : Nat), VwA a p H vs ss → VwA a p H (vs.set j v) (ss.set j s)
  | _, _, _, .nil => .nil
  | _, _, 0, .cons _ t => .cons hv t
  | _, _, j + 1, .cons h t => .cons h (VwA.set hv j t)
theorem PS.mv {a : Ads} {p lp : Addr} {H H' : Hp} {vs : List V} {ss : List Sh} (h : PS a p lp H vs ss) (e : ∀ b o, H b = some o → b ≠ p → b ≠ lp → (∀ ps, o ≠ .tbl ps) → H' b = some o) (hl : H' lp = some (.lst vs)) : PS a p lp H' vs ss :=
  let ⟨k1, k2⟩ := VwA.st2 e _ _ h.v1 h.v2
  ⟨hl, k1, k2, h.len, h.form⟩
theorem PS.keep {a : Ads} {p lp : Addr} {H H' : Hp} {vs : List V} {ss : List Sh} (h : PS a p lp H vs ss) (e : Ex H H') : PS a p lp H' vs ss := h.mv (fun b o hb _ _ _ => e _ _ hb) (e _ _ h.at_)
theorem PS.draw {a : Ads} {p lp : Addr} {H H' : Hp} {vs : List V} {ss : List Sh} (h : PS a p lp H vs ss) (e : ExP p H H') (np : lp ≠ p) : PS a p lp H' vs ss := h.mv (fun b o hb n _ _ => e.ex _ _ hb n) (e.ex _ _ h.at_ np)
theorem PS.put {a : Ads} {p lp : Addr} {H : Hp} {vs : List V} {ss : List Sh} {v : V} {s : Sh} (h : PS a p lp H vs ss) (h1 : Vw a p H v s) (h2 : Vw a lp H v s) (j : Nat) (j0 : 1 ≤ j) : PS a p lp (upd H lp (.lst (vs.set j v))) (vs.set j v) (ss.set j s) := by
  obtain ⟨k1, k2⟩ := VwA.st2 (H' := upd H lp (.lst (vs.set j v))) (fun b o hb _ n2 _ => by rw [upd_ne n2]; exact hb) _ _ (VwA.set h1 j h.v1) (VwA.set h2 j h.v2)
  refine ⟨upd_same, k1, k2, by rw [List.length_set]; exact h.len, ?_⟩
  obtain ⟨s0, r, e, m⟩ := h.form
  match j, j0 with
  | j + 1, _ => exact ⟨s0, r.set j s, by rw [e]; rfl, m⟩
theorem ps_of {a : Ads} {p lp : Addr} {H : Hp} {vs : List V} (h : H lp = some (.lst vs)) (len : vs.length = 5) (all : ∀ y ∈ vs, B2 a p lp H y) : ∃ vs ss, PS a p lp H vs ss := by
  have key : ∀ vs : List V, (∀ y ∈ vs, B2 a p lp H y) → ∃ ss, VwA a p H vs ss ∧ VwA a lp H vs ss ∧ ∀ s ∈ ss, isM s = false := fun vs => by
    induction vs with
    | nil => exact fun _ => ⟨[], .nil, .nil, fun _ z => nomatch z⟩
    | cons y ys ih =>
      intro all
      obtain ⟨s, h1, h2, h3⟩ := all y (List.mem_cons_self ..)
      obtain ⟨ss, k1, k2, k3⟩ := ih fun z hz => all z (List.mem_cons_of_mem _ hz)
      refine ⟨s :: ss, .cons h1 k1, .cons h2 k2, fun z hz => ?_⟩
      rcases List.mem_cons.mp hz with rfl | hz
      · exact h3
      · exact k3 z hz
  obtain ⟨ss, h1, h2, h3⟩ := key vs all
  have ls : ss.length = 5 := h1.len.symm.trans len
  refine ⟨vs, ss, h, h1, h2, ls, ?_⟩
  match ss, ls with
  | s :: r, _ => exact ⟨s, r, rfl, h3 s (List.mem_cons_self ..)⟩
theorem PS.vlen {a : Ads} {p lp : Addr} {H : Hp} {vs : List V} {ss : List Sh} (h : PS a p lp H vs ss) : vs.length = 5 := h.v1.len.trans h.len
theorem PS.at2 {a : Ads} {p lp : Addr} {H : Hp} {vs : List V} {ss : List Sh} (h : PS a p lp H vs ss) (j : Nat) (hj : j < 5) : ∃ v s, vs[j]? = some v ∧ ss[j]? = some s ∧ Vw a p H v s ∧ Vw a lp H v s := by
  obtain ⟨v, hv, h1⟩ := h.v1.at_ (List.getElem?_eq_getElem (by rw [h.len]; exact hj))
  obtain ⟨v', hv', h2⟩ := h.v2.at_ (List.getElem?_eq_getElem (by rw [h.len]; exact hj))
  rw [hv] at hv'
  cases hv'
  exact ⟨v, _, hv, List.getElem?_eq_getElem (by rw [h.len]; exact hj), h1, h2⟩
section
variable {K : PySem.W.Frag} {σ : L2.St} {H H0 : Hp} {te tb tl : TE} {tt : TT} {tu : TS} {a : Ads} {p lc lp : Addr} {n : Nat} {vs : List V} {ss : List Sh} {Q : VK} {E : XK} {D : Ends} {tz : TS} {i j : Nat} {xs : List V} {g : TG}
theorem q_ifRaw {M : L2.St → Hp → Prop} (h : (∀ σ2 H2, M σ2 H2 → tz D σ2 H2) → tt σ H fun b H1 => if b = true then tu { D with nx := tz D } σ H1 else tz D σ H1) (k : ∀ σ2 H2, M σ2 H2 → tz D σ2 H2) : tSeq (tIfS tt tu tNext) tz D σ H := h k
theorem s_ifRawS (h : tt σ H fun b H1 => if b = true then tu D σ H1 else D.nx σ H1) : tIfS tt tu tNext D σ H := h
theorem set_ok {v : V} (hj : j < vs.length) (hi : σ[i]? = some (some (.ref lp))) (hb : Ev tb σ H (.int (j : Nat))) (hl : H lp = some (.lst vs)) {N : L2.St → Hp → Prop} (k : ∀ H2, Ex H H2 → N σ (upd H2 lp (.lst (vs.set j v)))) : gSub (tVar i) tb rSetL v σ H N :=
  ⟨.ref lp, hi, hb H (Ex.refl H) _ fun H2 e2 => ⟨lp, vs, (j : Nat), j, rfl, rfl, e2 _ _ hl, KF.ixN_nat hj, k H2 e2⟩⟩
theorem s_asgSub (h : te σ H fun v H1 => gSub (tVar i) tb rSetL v σ H1 D.nx) : tAsg te (gSub (tVar i) tb rSetL) D σ H := h
theorem q_forU (h : EvU tl σ H xs) (Pv : Addr → Nat → L2.St → Hp → Prop) (h0 : ∀ c H1, H c = none → Ex H H1 → H1 c = some (.tup xs) → Pv c 0 σ H1) (hl : ∀ c i σ' H', Pv c i σ' H' → H' c = some (.tup xs))
    (hs : ∀ c i x σ' H', xs[i]? = some x → Pv c i σ' H' → g x σ' H' fun σ2 H2 => tu { D with nx := Pv c (i + 1), ct := Pv c (i + 1), bk := tz D } σ2 H2) (hd : ∀ c σ' H', Pv c xs.length σ' H' → tz D σ' H') : tSeq (tFor (iTup K tl) g tu) tz D σ H :=
  h H (Ex.refl H) _ fun c H1 hc e1 h1 => q_forT (K := K) (tl := tC (.ref c)) (H := H1) (σ := σ) ev_c (st_of h1) (Pv c) (fun H2 e2 => h0 c H2 (fresh_back (Ex.refl _) hc) (e1.trans e2) (e2 _ _ h1)) (fun i σ' H' _ q => st_of (hl c i σ' H' q)) (hs c) (hd c)
theorem rv_notN {x : V} : RV (fun x y H Q => y = .non ∧ Q (.bl (!decide (x = .non))) H) x .non H (.bl (!decide (x = .non))) := fun H1 _ _ q => ⟨rfl, q H1 (Ex.refl H1)⟩
theorem drawn_0 {b0 : Bool} {QQ : Bool → Hp → Prop} (m : Nat) (h0 : σ[0]? = some (some (.ref p))) (pen : PenL H p lc n) (hn : n < 100000) (hm0 : 0 < m) (hm : m ≤ 1000) (k : ∀ b H', ExP p H H' → PenL H' p lc (n + 1) → QQ b H') : tTest (tOp rEq (tCall spDraw [] E (tCons (tVar 0) (tCons (tC (.int (m : Nat))) tNil))) (tC (.int 0))) σ H QQ :=
  draw_r (lc := lc) m h0 ev_c pen hn hm0 hm fun c H3 hc e3 pen3 => ⟨rfl, decide (V.int (c : Nat) = V.int 0), rfl, k _ H3 e3 pen3⟩
/-- the owners as a tuple, perhaps -/
theorem q_stepA {w : World} {mg : Str → Option Value} (T : Txt w K mg a) (h0 : σ[0]? = some (some (.ref p))) (h11 : σ[11]? = some (some (.ref lp))) (ps : PS a p lp H vs ss) (pen : PenL H p lc n) (hn : n < 99999) (e0 : ExP p H0 H) (l0 : H0 lp = none) (np : lp ≠ p) (nl : lc ≠ lp)
    (k : ∀ H' vs ss, PS a p lp H' vs ss → PenL H' p lc (n + 1) → ExP p H0 H' → tz D σ H') :
    tSeq (tIfS (tAnd (tTest (tOp rEq (tCall spDraw [] E (tCons (tVar 0) (tCons (tC (.int 2)) tNil))) (tC (.int 0)))) (tB (tCB (rIsi K) (tCons (tOp (rIxL K) (tVar 11) (tC (.int 1))) (tCons (tC (.ty "list")) tNil)))))
      (tAsg (tCB (fun xs H Q => ∃ p ys, xs = [.ref p] ∧ ((SqL K H p ys ∧ ∀ l, H l = none → Q (.ref l) (upd H l (.tup ys))) ∨ (SqT K H p ys ∧ Q (.ref p) H))) (tCons (tOp (rIxL K) (tVar 11) (tC (.int 1))) tNil)) (gSub (tVar 11) (tC (.int 1)) rSetL)) tNext) tz D σ H := by
  refine q_ifRaw (M := fun σ2 H2 => σ2 = σ ∧ ∃ vs ss, PS a p lp H2 vs ss ∧ PenL H2 p lc (n + 1) ∧ ExP p H0 H2) (fun kM => ?_) fun σ2 H2 ⟨e, vs, ss, h1, h2, h3⟩ => e ▸ k H2 vs ss h1 h2 h3
  refine drawn_0 (b0 := true) (lc := lc) 2 h0 pen (by omega) (by decide) (by decide) fun b H1 e1 pen1 => ?_
  have ps1 := ps.draw e1 np
  have e01 := e0.trans e1
  have out : ∀ H2, Ex H1 H2 → tz D σ H2 := fun H2 e2 => kM σ H2 ⟨rfl, vs, ss, ps1.keep e2, pen1.keep e2, e01.trans (ExP.of e2)⟩
  refine iteC (fun _ => ?_) (fun _ => iteC (fun z => nomatch z) fun _ => out H1 (Ex.refl _))
  obtain ⟨v, s, hv, hs, w1, w2⟩ := ps1.at2 1 (by decide)
  refine (et_B (ev_isW T (t := "list") (ev_op (ev_var h11) ev_c (rv_ixL (K := K) (sq_of ps1.at_) (show atI vs ((1 : Nat) : Int) = _ from atI_nat hv))) w1 (by decide)) : EvT _ σ H1 _) H1 (Ex.refl _) _ fun H2 e2 => iteC (fun yes => ?_) fun _ => out H2 e2
  have ps2 := ps1.keep e2
  cases s with
  | lst ws =>
    have w1 := w1.mono e2
    have w2 := w2.mono e2
    cases w1 with
    | @lst l xs _ ne at_ few all =>
      cases w2 with
      | lst ne2 at2 _ all2 =>
        rw [at_] at at2
        cases at2
        refine s_asgSub ((ev_op (ev_var h11) ev_c (rv_ixL (K := K) (sq_of ps2.at_) (show atI vs ((1 : Nat) : Int) = _ from atI_nat hv)) : Ev _ σ H2 _) H2 (Ex.refl _) _ fun H3 e3 => ⟨l, xs, rfl, .inl ⟨sq_of (e3 _ _ at_), fun t ht => ?_⟩⟩)
        have en := Ex.new ht (o := .tup xs)
        have e24 := e3.trans en
        refine set_ok (j := 1) (vs := vs) (by rw [ps2.vlen]; decide) h11 ev_c (e24 _ _ ps2.at_) fun H5 e5 => ?_
        have e25 := e24.trans e5
        have ps5 := ps2.keep e25
        have pen5 := pen1.keep (e2.trans e25)
        have tp : t ≠ p := ((pen1.keep e2).keep e3).pen.ne_new ht
        have tl : t ≠ lp := (ne_of_none (e3 _ _ ps2.at_) ht).symm
        have ht5 : H5 t = some (.tup xs) := e5 _ _ upd_same
        have ps6 := ps5.put (.tup tp ht5 few (all.mono e25)) (.tup tl ht5 few (all2.mono e25)) 1 (by decide)
        exact kM σ _ ⟨rfl, _, _, ps6, pen5.upd (Ne.symm np) nl, (e01.trans (ExP.of (e2.trans e25))).mut l0 np⟩
  | _ => exact nomatch (show false = true from yes)
/-- a mode as a Mode, perhaps -/
theorem s_stepB {w : World} {mg : Str → Option Value} (T : Txt w K mg a) (hj : j = 3 ∨ j = 4) (h0 : σ[0]? = some (some (.ref p))) (h11 : σ[11]? = some (some (.ref lp))) (h6 : σ[6]? = some (some (.int (j : Nat)))) (ps : PS a p lp H vs ss) (pen : PenL H p lc n) (hn : n < 99999) (e0 : ExP p H0 H) (l0 : H0 lp = none) (np : lp ≠ p) (nl : lc ≠ lp)
    {E1 E2 E3 : XK} (k : ∀ H' vs ss, PS a p lp H' vs ss → PenL H' p lc (n + 1) → ExP p H0 H' → (∀ b o, H b = some o → b ≠ p → b ≠ lp → H' b = some o) → D.nx σ H') :
    tIfS (tAnd (tTest (tOp rEq (tCall spDraw [] E (tCons (tVar 0) (tCons (tC (.int 2)) tNil))) (tC (.int 0)))) (tTest (tOp (fun x y H Q => y = .non ∧ Q (.bl (!decide (x = .non))) H) (tCall (spLNum a) [] E1 (tCons (tOp (rIxL K) (tVar 11) (tVar 6)) tNil)) (tC .non))))
      (tAsg (tMake a.f_Mode (spMode a) [] E2 (tCons (tCall (spLNum a) [] E3 (tCons (tOp (rIxL K) (tVar 11) (tVar 6)) tNil)) tNil)) (gSub (tVar 11) (tVar 6) rSetL)) tNext D σ H := by
  have j5 : j < 5 := by omega
  refine s_ifRawS (drawn_0 (b0 := true) (lc := lc) 2 h0 pen (by omega) (by decide) (by decide) fun b H1 e1 pen1 => ?_)
  have ps1 := ps.draw e1 np
  have e01 := e0.trans e1
  have out : ∀ H2, Ex H1 H2 → D.nx σ H2 := fun H2 e2 => k H2 vs ss (ps1.keep e2) (pen1.keep e2) (e01.trans (ExP.of e2)) fun b o hb n1 _ => e2 _ _ (e1.ex _ _ hb n1)
  refine iteC (fun _ => ?_) (fun _ => iteC (fun z => nomatch z) fun _ => out H1 (Ex.refl _))
  obtain ⟨v, s, hv, hs, w1, w2⟩ := ps1.at2 j j5
  have num : ∀ {H2 : Hp} {E : XK}, Ex H1 H2 → Ev (tCall (spLNum a) [] E (tCons (tOp (rIxL K) (tVar 11) (tVar 6)) tNil)) σ H2 (numV s) := fun {H2 E} e2 => ev_call (vs := [v]) (ea_cons (ev_op (ev_var h11) (ev_var h6) (rv_ixL (K := K) (sq_of (ps1.keep e2).at_) (atI_nat hv))) ea_nil) fun H6 e Q q E => ⟨p, v, s, rfl, w1.mono (e2.trans e), q⟩
  refine (et_test (ev_op (num (Ex.refl _)) ev_c rv_notN) : EvT _ σ H1 (!decide (numV s = .non))) H1 (Ex.refl _) _ fun H2 e2 => iteC (fun yes => ?_) fun _ => out H2 e2
  rw [num_is, Bool.not_not] at yes
  obtain ⟨m, hm⟩ := Option.isSome_iff_exists.mp yes
  have ps2 := ps1.keep e2
  have nm : numV s = .int (m : Nat) := by unfold numV; rw [hm]
  have m512 := num_lt w1 hm
  refine s_asgSub ((ep_mode (a := a) (n := m) (b := lp) (o := .lst vs) (ev_is (num e2) nm) m512 ps2.at_ : EvP _ σ H2 _) H2 (Ex.refl _) _ fun v' H3 e3 hq => ?_)
  obtain ⟨q, rfl, ql, mq⟩ := hq
  have ps3 := ps2.keep e3
  refine set_ok (j := j) (vs := vs) (by rw [ps3.vlen]; exact j5) h11 (ev_var h6) ps3.at_ fun H5 e5 => ?_
  have ps5 := ps3.keep e5
  have pen5 := pen1.keep ((e2.trans e3).trans e5)
  have qp : q ≠ p := by
    obtain ⟨dx, hq⟩ := mq
    obtain ⟨ns', at_, r, g1, _⟩ := pen1.keep (e2.trans e3)
    exact ne_of hq g1 fun z => nomatch z
  have ps6 := ps5.put (.mode qp m512 (mq.mono e5)) (.mode ql m512 (mq.mono e5)) j (by omega)
  exact k _ _ _ ps6 (pen5.upd (Ne.symm np) nl) ((e01.trans (ExP.of ((e2.trans e3).trans e5))).mut l0 np) fun b o hb n1 n2 => by
    rw [upd_ne n2]
    exact e5 _ _ (e3 _ _ (e2 _ _ (e1.ex _ _ hb n1)))
theorem q_loopB {w : World} {mg : Str → Option Value} (T : Txt w K mg a) {tU : TE} (hU : EvU tU σ H [.int 3, .int 4]) (w0 : ∀ x, (σ.set 6 x)[0]? = some (some (.ref p))) (w11 : ∀ x, (σ.set 6 x)[11]? = some (some (.ref lp))) (w6 : ∀ x, (σ.set 6 x)[6]? = some x) (ww : ∃ x, σ = σ.set 6 x) (ps : PS a p lp H vs ss) (pen : PenL H p lc n) (hn : n + 2 ≤ 99999) (e0 : ExP p H0 H) (l0 : H0 lp = none) (np : lp ≠ p) (nl : lc ≠ lp)
    {E1 E2 E3 : XK} (k : ∀ x H' vs ss, PS a p lp H' vs ss → PenL H' p lc (n + 2) → ExP p H0 H' → tz D (σ.set 6 x) H') :
    tSeq (tFor (iTup K tU) (gName 6) (tIfS (tAnd (tTest (tOp rEq (tCall spDraw [] E (tCons (tVar 0) (tCons (tC (.int 2)) tNil))) (tC (.int 0)))) (tTest (tOp (fun x y H Q => y = .non ∧ Q (.bl (!decide (x = .non))) H) (tCall (spLNum a) [] E1 (tCons (tOp (rIxL K) (tVar 11) (tVar 6)) tNil)) (tC .non))))
      (tAsg (tMake a.f_Mode (spMode a) [] E2 (tCons (tCall (spLNum a) [] E3 (tCons (tOp (rIxL K) (tVar 11) (tVar 6)) tNil)) tNil)) (gSub (tVar 11) (tVar 6) rSetL)) tNext)) tz D σ H := by
  refine q_forU hU (fun c i σ' H' => ∃ x vs ss, σ' = σ.set 6 x ∧ PS a p lp H' vs ss ∧ PenL H' p lc (n + i) ∧ ExP p H0 H' ∧ c ≠ p ∧ c ≠ lp ∧ H' c = some (.tup [.int 3, .int 4])) (fun c H1 hc e1 h1 => ?_) (fun c i σ' H' h => ?_) (fun c i x σ' H' hx h => ?_) fun c σ' H' h => ?_
  · obtain ⟨x, hx⟩ := ww
    exact ⟨x, vs, ss, hx, ps.keep e1, pen.keep e1, e0.trans (ExP.of e1), pen.pen.ne_new hc, (ne_of_none ps.at_ hc).symm, h1⟩
  · obtain ⟨_, _, _, _, _, _, _, _, _, h⟩ := h
    exact h
  · obtain ⟨y, vs, ss, rfl, ps', pen', e', cp, cl, hc⟩ := h
    have key : ∀ j : Nat, (j = 3 ∨ j = 4) → i < 2 → x = .int (j : Nat) → gName 6 x (σ.set 6 y) H' fun σ2 H2 => tIfS (tAnd (tTest (tOp rEq (tCall spDraw [] E (tCons (tVar 0) (tCons (tC (.int 2)) tNil))) (tC (.int 0)))) (tTest (tOp (fun x y H Q => y = .non ∧ Q (.bl (!decide (x = .non))) H) (tCall (spLNum a) [] E1 (tCons (tOp (rIxL K) (tVar 11) (tVar 6)) tNil)) (tC .non))))
      (tAsg (tMake a.f_Mode (spMode a) [] E2 (tCons (tCall (spLNum a) [] E3 (tCons (tOp (rIxL K) (tVar 11) (tVar 6)) tNil)) tNil)) (gSub (tVar 11) (tVar 6) rSetL)) tNext { D with nx := fun σ' H' => ∃ x vs ss, σ' = σ.set 6 x ∧ PS a p lp H' vs ss ∧ PenL H' p lc (n + (i + 1)) ∧ ExP p H0 H' ∧ c ≠ p ∧ c ≠ lp ∧ H' c = some (.tup [.int 3, .int 4]), ct := fun σ' H' => ∃ x vs ss, σ' = σ.set 6 x ∧ PS a p lp H' vs ss ∧ PenL H' p lc (n + (i + 1)) ∧ ExP p H0 H' ∧ c ≠ p ∧ c ≠ lp ∧ H' c = some (.tup [.int 3, .int 4]), bk := tz D } σ2 H2 := fun j hj i2 ex => by
      subst ex
      show tIfS _ _ _ _ ((σ.set 6 y).set 6 (some (.int (j : Nat)))) H'
      rw [List.set_set]
      exact s_stepB T hj (w0 _) (w11 _) (w6 _) ps' pen' (by omega) e' l0 np nl fun H2 vs2 ss2 p2 pen2 e2 st => ⟨_, vs2, ss2, rfl, p2, pen2, e2, cp, cl, st _ _ hc cp cl⟩
    match i, hx with
    | 0, hx =>
      cases hx
      exact key 3 (.inl rfl) (by decide) rfl
    | 1, hx =>
      cases hx
      exact key 4 (.inr rfl) (by decide) rfl
    | i + 2, hx => simp at hx
  · obtain ⟨x, vs, ss, rfl, ps', pen', e', _⟩ := h
    exact k x H' vs ss ps' pen' e'
end
end KP
set_option Elab.async false
set_option linter.all false
set_option maxRecDepth 100000
set_option maxHeartbeats 4000000
namespace KP
open PySem PySem.Spec PyProof.Rows L2 Evl KF
local macro_rules | `(tactic| walk_at "ev") => `(tactic| repeat' (first | exact ev_c | exact ev_var rfl | exact rv_I0 | refine' rv_I ?_ | refine' rv_eq ?_ | refine' rv_ne ?_ | refine' ev_op ?_ ?_ ?_ | exact ea_nil | refine' ea_cons ?_ ?_ | refine' et_test ?_ | refine' et_B ?_ | refine' et_not ?_ | refine' ev_notV ?_))

open PySem LamX
/-! ### what is shown, as data -/
theorem nmS_sz {s : Str} (h : nmS s = true) : s.cps.size ≤ 8 := by
  unfold nmS at h
  rw [Bool.and_eq_true, Bool.and_eq_true, decide_eq_true_iff, decide_eq_true_iff] at h
  exact h.1.2
def SrtO : Option (List Str) → Option (List Str) → Prop
  | none, none => True
  | some xs, some ys => ys.Perm xs ∧ sortedS ys = true
  | _, _ => False
def dO : Option (List Str) → PyData
  | none => .none
  | some ys => .tuple (ys.map PyData.str)
theorem kept_srt {K : PySem.W.Frag} {H : Hp} {v : V} {o : Option (List Str)} (h : KeptAt H v o) : ∃ y, SrtO o y ∧ Dp K H v (dO y) := by
  cases o with
  | none =>
    obtain rfl : v = .non := h
    exact ⟨none, trivial, .non⟩
  | some xs =>
    obtain ⟨l, ys, rfl, hp, hs, hl⟩ := h
    exact ⟨some ys, ⟨hp, hs⟩, .tup (st_of hl) (KV.dp_strs ys)⟩
theorem SrtO.one {o y z : Option (List Str)} (h : SrtO o y) (k : SrtO o z) : y = z := by
  match o, y, z, h, k with
  | none, none, none, _, _ => rfl
  | some xs, some ys, some zs, ⟨p1, s1⟩, ⟨p2, s2⟩ => rw [(KV.sorted_eq_iff s1 p1 s2 p2).mpr (List.Perm.refl _)]
theorem SrtO.same {o p y z : Option (List Str)} (h : SrtO o y) (k : SrtO p z) : y = z ↔ eqO o p = true := by
  match o, p, y, z, h, k with
  | none, none, none, none, _, _ => exact ⟨fun _ => rfl, fun _ => rfl⟩
  | none, some _, none, some _, _, _ => exact ⟨fun z => (nomatch z), fun z => (nomatch z)⟩
  | some _, none, some _, none, _, _ => exact ⟨fun z => (nomatch z), fun z => (nomatch z)⟩
  | some xs, some ws, some ys, some zs, ⟨p1, s1⟩, ⟨p2, s2⟩ =>
    show some ys = some zs ↔ xs.isPerm ws = true
    rw [List.isPerm_iff, ← KV.sorted_eq_iff s1 p1 s2 p2]
    exact ⟨fun z => by injection z, fun z => by rw [z]⟩
theorem srt_names {o : Option (List Str)} {ys : List Str} (n : NamesOk o) (s : SrtO o (some ys)) : ys.length ≤ 2 ∧ ∀ z ∈ ys, nmS z = true := by
  match o, s with
  | some xs, ⟨p, _⟩ =>
    obtain ⟨h1, h2⟩ := n xs rfl
    exact ⟨by rw [p.length_eq]; exact h1, fun z hz => h2 z (p.mem_iff.mp hz)⟩
theorem dO_fits {o y : Option (List Str)} (n : NamesOk o) (s : SrtO o y) : (dO y).canLay0 = true ∧ (dO y).depth ≤ 1 ∧ (dO y).weight ≤ 100 ∧ (dO y).showable = true ∧ (dO y).hasDict = false ∧ (dO y).intsShort 13 = true := by
  cases y with
  | none => exact ⟨rfl, by decide, by decide, rfl, rfl, rfl⟩
  | some ys =>
    obtain ⟨h1, h2⟩ := srt_names n s
    match ys, h1, h2 with
    | [], _, _ => exact ⟨rfl, by decide, by decide, rfl, rfl, rfl⟩
    | [x], _, all =>
      have ox := all x (by simp)
      have zx := nmS_sz ox
      refine ⟨by simp [dO, PyData.canLay0, PyData.canLayAll0, nmS_ok ox], by simp [dO, PyData.depth, PyData.depthAll], ?_, rfl, rfl, rfl⟩
      simp [dO, PyData.weight, PyData.weightAll]
      omega
    | [x, y], _, all =>
      have ox := all x (by simp)
      have zx := nmS_sz ox
      have oy := all y (by simp)
      have zy := nmS_sz oy
      refine ⟨by simp [dO, PyData.canLay0, PyData.canLayAll0, nmS_ok ox, nmS_ok oy], by simp [dO, PyData.depth, PyData.depthAll], ?_, rfl, rfl, rfl⟩
      simp [dO, PyData.weight, PyData.weightAll]
      omega
    | _ :: _ :: _ :: _, h, _ => simp at h
def dLn (L : Ln) (y1 y2 : Option (List Str)) : PyData := .tuple [.str L.form, dO y1, dO y2, .int (L.must : Nat), .int (L.never : Nat)]
theorem form_sz {L : Ln} (ok : LnOk L) : L.form.cps.size ≤ 6 ∧ PyData.strOk L.form = true := by
  rcases ok.form with e | e <;> rw [e] <;> decide +kernel
theorem dLn_fits {L : Ln} {y1 y2 : Option (List Str)} (ok : LnOk L) (s1 : SrtO L.o1 y1) (s2 : SrtO L.o2 y2) : (dLn L y1 y2).showable = true ∧ (dLn L y1 y2).hasDict = false ∧ (dLn L y1 y2).depth ≤ 60 ∧ (dLn L y1 y2).shown.length ≤ sizeLine := by
  obtain ⟨a1, a2, a3, a4, a5, a6⟩ := dO_fits ok.n1 s1
  obtain ⟨b1, b2, b3, b4, b5, b6⟩ := dO_fits ok.n2 s2
  obtain ⟨f1, f2⟩ := form_sz ok
  have l1 := log_small (n := L.must) (by have := ok.must; omega)
  have l2 := log_small (n := L.never) (by have := ok.never; omega)
  refine ⟨?_, ?_, ?_, ?_⟩
  · simp only [dLn, PyData.showable, PyData.showableAll, a4, b4, Bool.and_true, Bool.true_and, Bool.and_eq_true, decide_eq_true_eq]
    exact ⟨l1, l2⟩
  · simp [dLn, PyData.hasDict, PyData.hasDictAll, a5, b5]
  · simp only [dLn, PyData.depth, PyData.depthAll]
    omega
  · refine PyData.shown_fits_of_layable0 (B := 13) (by decide) (by decide) ?_ ?_
    · unfold dLn PyData.layable0
      simp only [PyData.canLay0, PyData.canLayAll0, PyData.depth, PyData.depthAll, PyData.weight, PyData.weightAll, a1, b1, f2, Bool.and_true, Bool.true_and, Bool.and_eq_true, decide_eq_true_eq]
      refine ⟨decide_eq_true (by omega), decide_eq_true ?_⟩
      have z : (2 : Nat) ^ 20 = 1048576 := by decide
      rw [z]
      split <;> split <;> omega
    · have i1 : (PyData.shown (.int (L.must : Nat))).length ≤ 13 := PyData.shown_int_le (by rw [Int.natAbs_natCast]; exact Nat.lt_trans ok.must (by decide))
      have i2 : (PyData.shown (.int (L.never : Nat))).length ≤ 13 := PyData.shown_int_le (by rw [Int.natAbs_natCast]; exact Nat.lt_trans ok.never (by decide))
      simp only [dLn, PyData.intsShort, PyData.intsShortAll, a6, b6, Bool.and_true, Bool.true_and, Bool.and_eq_true, decide_eq_true_eq]
      exact ⟨i1, i2⟩
theorem dLn_shaped {L : Ln} {y1 y2 : Option (List Str)} (ok : LnOk L) (s1 : SrtO L.o1 y1) (s2 : SrtO L.o2 y2) : SeqAt.shaped (dLn L y1 y2) = true := by
  obtain ⟨a1, a2, _⟩ := dO_fits ok.n1 s1
  obtain ⟨b1, b2, _⟩ := dO_fits ok.n2 s2
  obtain ⟨_, f2⟩ := form_sz ok
  unfold SeqAt.shaped
  simp only [dLn, PyData.canLay0, PyData.canLayAll0, PyData.depth, PyData.depthAll, a1, b1, f2, Bool.and_true, Bool.true_and, Bool.and_eq_true, decide_eq_true_eq]
  omega
theorem ShownAt.mono {H H' : Hp} {t : Addr} {L : Ln} (h : ShownAt H t L) (e : Ex H H') : ShownAt H' t L := let ⟨w1, w2, h1, h2, h3⟩ := h; ⟨w1, w2, e _ _ h1, h2.mono e, h3.mono e⟩
theorem shown_dp {K : PySem.W.Frag} {H : Hp} {t : Addr} {L : Ln} (h : ShownAt H t L) : ∃ y1 y2, SrtO L.o1 y1 ∧ SrtO L.o2 y2 ∧ Dp K H (.ref t) (dLn L y1 y2) := by
  obtain ⟨w1, w2, ht, k1, k2⟩ := h
  obtain ⟨y1, s1, d1⟩ := kept_srt (K := K) k1
  obtain ⟨y2, s2, d2⟩ := kept_srt (K := K) k2
  exact ⟨y1, y2, s1, s2, .tup (st_of ht) (.cons (.str _) (.cons d1 (.cons d2 (.cons (.int _) (.cons (.int _) .nil)))))⟩
theorem shown_dp2 {K : PySem.W.Frag} {H : Hp} {t : Addr} {L : Ln} {y1 y2 : Option (List Str)} (h : ShownAt H t L) (s1 : SrtO L.o1 y1) (s2 : SrtO L.o2 y2) : Dp K H (.ref t) (dLn L y1 y2) := by
  obtain ⟨z1, z2, r1, r2, d⟩ := shown_dp (K := K) h
  rw [s1.one r1, s2.one r2]
  exact d
section
variable {K : PySem.W.Frag} {σ : L2.St} {H : Hp} {te ta tb : TE} {L M : Ln} {y1 y2 : Option (List Str)}
/-- repr of what is shown -/
theorem ev_reprS (ok : LnOk L) (s1 : SrtO L.o1 y1) (s2 : SrtO L.o2 y2) (h : EvP te σ H fun H v => ∃ t, v = .ref t ∧ ShownAt H t L) : Ev (tCB (KD.rReprV K) (tCons te tNil)) σ H (.str (dLn L y1 y2).shown) := fun H1 e Q q => h H1 e _ fun v H2 e2 sh => by
  obtain ⟨t, rfl, sh⟩ := sh
  obtain ⟨f1, f2, f3, f4⟩ := dLn_fits ok s1 s2
  exact ⟨.ref t, _, rfl, .obj (shown_dp2 sh s1 s2) f1 f2 f3 f4, q H2 e2⟩
theorem ep_shown {a : Ads} {b : Addr} {E : XK} (h : Ev te σ H (.ref b)) (hb : LineAt a H b L) : EvP (tCall (spShown a) [] E (tCons te tNil)) σ H fun H v => ∃ t, v = .ref t ∧ ShownAt H t L := fun H1 e Q q =>
  h H1 e _ fun H2 e2 => ⟨b, L, rfl, hb.mono (e.trans e2), fun t H3 ht e3 sh => q _ H3 (e2.trans e3) ⟨t, rfl, sh⟩⟩
theorem ep_at {t : Addr} (h : Ev te σ H (.ref t)) (ht : ShownAt H t L) : EvP te σ H fun H v => ∃ t, v = .ref t ∧ ShownAt H t L := fun H1 e Q q => h H1 e _ fun H2 e2 => q _ H2 e2 ⟨t, rfl, ht.mono (e.trans e2)⟩
theorem line_srt (K : PySem.W.Frag) {a : Ads} {b : Addr} (h : LineAt a H b L) : ∃ y1 y2, SrtO L.o1 y1 ∧ SrtO L.o2 y2 := by
  obtain ⟨_, _, _, _, _, _, k1, k2, _⟩ := h
  obtain ⟨y1, s1, _⟩ := kept_srt (K := K) k1
  obtain ⟨y2, s2, _⟩ := kept_srt (K := K) k2
  exact ⟨y1, y2, s1, s2⟩
end
/-! ### nothing is due -/
theorem due_none {f o g m n : Sh} (h : dueW f o g m n = none) : formW f = true ∧ toldW o = true ∧ toldW g = true ∧ ∃ x y, numW m = some x ∧ numW n = some y := by
  unfold dueW at h
  split at h
  · cases h
  · rename_i h1
    split at h
    · cases h
    · rename_i h2
      split at h
      · cases h
      · rename_i h3
        refine ⟨by simpa using h1, by simpa using h2, by simpa using h3, ?_⟩
        split at h
        · cases h
        · rename_i x hx
          split at h
          · cases h
          · rename_i y hy
            exact ⟨x, y, hx, hy⟩
theorem nm_of {a : Ads} {p : Addr} {H : Hp} {v : V} {s : Sh} (h : Vw a p H v s) (yes : toldW s = true) : NmQ H v (oW s) ∧ NamesOk (oW s) := by
  rcases told_seq h yes with ⟨rfl, rfl⟩ | ⟨l, ss, rfl, hl, eo, l2, _, _, all⟩
  · exact ⟨rfl, fun xs z => nomatch z⟩
  · rw [eo]
    exact ⟨⟨l, rfl, hl, by omega⟩, fun xs z => by cases z; exact ⟨l2, all⟩⟩
theorem form_of {a : Ads} {p : Addr} {H : Hp} {v : V} {f : Sh} (h : Vw a p H v f) (yes : formW f = true) : ∃ s, v = .str s ∧ f = .str s ∧ (s = "file" ∨ s = "folder") := by
  cases h with
  | str s _ => exact ⟨s, rfl, rfl, of_decide_eq_true yes⟩
  | _ => exact nomatch (show false = true from yes)
structure Good (a : Ads) (H : Hp) (v1 v2 v3 : V) (m n : Sh) (L : Ln) : Prop where
  v1 : v1 = .str L.form
  n1 : NmQ H v2 L.o1
  n2 : NmQ H v3 L.o2
  m1 : numV m = .int (L.must : Nat)
  m2 : numV n = .int (L.never : Nat)
  ok : LnOk L
theorem good_of {a : Ads} {p : Addr} {H : Hp} {v1 v2 v3 v4 v5 : V} {f o g m n : Sh} (ag : Args a p H v1 v2 v3 v4 v5 f o g m n) (h : dueW f o g m n = none) : Good a H v1 v2 v3 m n (lnOf f o g m n) := by
  obtain ⟨h1, h2, h3, x, y, hx, hy⟩ := due_none h
  obtain ⟨s, rfl, rfl, hs⟩ := form_of ag.h1 h1
  obtain ⟨q1, k1⟩ := nm_of ag.h2 h2
  obtain ⟨q2, k2⟩ := nm_of ag.h3 h3
  have ex : (numW m).getD 0 = x := by rw [hx]; rfl
  have ey : (numW n).getD 0 = y := by rw [hy]; rfl
  refine ⟨rfl, q1, q2, ?_, ?_, ⟨k1, k2, hs, ?_, ?_⟩⟩
  · show numV m = .int (((numW m).getD 0 : Nat) : Int)
    rw [ex]
    unfold numV
    rw [hx]
  · show numV n = .int (((numW n).getD 0 : Nat) : Int)
    rw [ey]
    unfold numV
    rw [hy]
  · show (numW m).getD 0 < 512
    rw [ex]
    exact num_lt ag.h4 hx
  · show (numW n).getD 0 < 512
    rw [ey]
    exact num_lt ag.h5 hy
theorem ps_five {a : Ads} {p lp : Addr} {H : Hp} {vs : List V} {ss : List Sh} (h : PS a p lp H vs ss) : ∃ v1 v2 v3 v4 v5 f o g m n, vs = [v1, v2, v3, v4, v5] ∧ Args a p H v1 v2 v3 v4 v5 f o g m n ∧ Args a lp H v1 v2 v3 v4 v5 f o g m n := by
  obtain ⟨h1, k1, k2, len, s0, r, e, hm⟩ := h
  subst e
  match r, len, k1, k2 with
  | [s1, s2, s3, s4], _, .cons a1 (.cons a2 (.cons a3 (.cons a4 (.cons a5 .nil)))), .cons b1 (.cons b2 (.cons b3 (.cons b4 (.cons b5 .nil)))) => exact ⟨_, _, _, _, _, s0, s1, s2, s3, s4, rfl, ⟨a1, a2, a3, a4, a5, hm⟩, ⟨b1, b2, b3, b4, b5, hm⟩⟩
/-! ### what stays -/
theorem LineAt.mv {a : Ads} {H H' : Hp} {b : Addr} {L : Ln} (h : LineAt a H b L) (e : ∀ c u, H c = some u → (∀ xs, u ≠ .lst xs) → (∀ ps, u ≠ .tbl ps) → H' c = some u) : LineAt a H' b L := by
  obtain ⟨dx, v1, v2, m1, m2, h0, k1, k2, ⟨d1, g1⟩, ⟨d2, g2⟩⟩ := h
  have kk : ∀ {v : V} {o : Option (List Str)}, KeptAt H v o → KeptAt H' v o := fun {v o} k => by
    cases o with
    | none => exact k
    | some xs =>
      obtain ⟨q, ys, hv, hm, hs, hq⟩ := k
      exact ⟨q, ys, hv, hm, hs, e _ _ hq (fun _ z => nomatch z) fun _ z => nomatch z⟩
  exact ⟨dx, v1, v2, m1, m2, e _ _ h0 (fun _ z => nomatch z) (fun _ z => nomatch z), kk k1, kk k2, ⟨d1, e _ _ g1 (fun _ z => nomatch z) fun _ z => nomatch z⟩, ⟨d2, e _ _ g2 (fun _ z => nomatch z) fun _ z => nomatch z⟩⟩
theorem LineAt.app {a : Ads} {H : Hp} {b c : Addr} {L : Ln} {xs ys : List V} (h : LineAt a H b L) (hc : H c = some (.lst xs)) : LineAt a (upd H c (.lst ys)) b L := h.mv fun d u hd nl _ => by
  rw [upd_ne (fun z => by rw [z, hc] at hd; cases hd; exact nl _ rfl)]
  exact hd
theorem LineAt.exN {a : Ads} {H H' : Hp} {b : Addr} {L : Ln} (h : LineAt a H b L) (e : ExtN H H') : LineAt a H' b L := h.mv fun d u hd _ nt => e _ _ hd nt
theorem PenL.exN {H H' : Hp} {p l : Addr} {n : Nat} (h : PenL H p l n) (e : ExtN H H') : PenL H' p l n := let ⟨ns, a, r, h1, h2, q⟩ := h; ⟨ns, a, r, e _ _ h1 (fun _ z => nomatch z), e _ _ h2 (fun _ z => nomatch z), q⟩
theorem HR.mv {a : Ads} {H H' : Hp} {v : V} {due : Option Nat} {L : Ln} {d : Addr} (h : HR a H v due L) (e : ∀ c u, H c = some u → c ≠ d → (∀ ps, u ≠ .tbl ps) → H' c = some u) (hd : ∀ c u, H c = some u → (∀ xs, u ≠ .lst xs) → c ≠ d) (nv : v ≠ .ref d) : HR a H' v due L := by
  cases due with
  | some i => exact h
  | none =>
    obtain ⟨l, p, rfl, hl, line⟩ := h
    exact ⟨l, p, rfl, e _ _ hl (fun z => nv (by rw [z])) (fun _ z => nomatch z), line.mv fun c u hc nl nt => e _ _ hc (hd _ _ hc nl) nt⟩
theorem HR.ne {a : Ads} {H : Hp} {v : V} {due : Option Nat} {L : Ln} {c : Addr} (h : HR a H v due L) (hc : H c = none) : v ≠ .ref c := by
  cases due with
  | some i => exact fun z => by rw [show v = .int (i : Nat) from h] at z; cases z
  | none =>
    obtain ⟨l, p, rfl, hl, _⟩ := h
    exact fun z => by cases z; rw [hc] at hl; cases hl
/-- the second heard is not the list of what is heard -/
theorem HR.ne2 {a : Ads} {H : Hp} {v w : V} {due : Option Nat} {L M : Ln} {c : Addr} (h : HR a H v due L) (k : HR a H w due M) (hc : H c = some (.lst [w])) : v ≠ .ref c := by
  cases due with
  | some i => exact fun z => by rw [show v = .int (i : Nat) from h] at z; cases z
  | none =>
    obtain ⟨l, p, rfl, hl, hL⟩ := h
    obtain ⟨l2, p2, rfl, hl2, _⟩ := k
    intro z
    cases z
    rw [hc] at hl
    cases hl
    obtain ⟨_, _, _, _, _, h0, _⟩ := hL
    rw [hl2] at h0
    cases h0
section
variable {K : PySem.W.Frag} {σ : L2.St} {H : Hp} {te ta tb : TE} {tz : TS} {D : Ends} {r : R2} {x v : V} {xs : List V}
theorem ev_opVL (ha : Ev ta σ H x) (hb : EvL tb σ H xs) (h : ∀ q H1, Ex H H1 → H1 q = some (.lst xs) → RV r x (.ref q) H1 v) : Ev (tOp r ta tb) σ H v := fun H1 e Q q =>
  ha H1 e _ fun H2 e2 => hb H2 (e.trans e2) _ fun p H3 _ e3 hp => h p H3 ((e.trans e2).trans e3) hp H3 (Ex.refl H3) Q fun H4 e4 => q H4 ((e2.trans e3).trans e4)
theorem rv_eq2I {b c : Addr} {i : Nat} (h1 : H b = some (.lst [.int (i : Nat), .int (i : Nat)])) (h2 : H c = some (.lst [.int (i : Nat), .int (i : Nat)])) : RV (rEqD K) (.ref b) (.ref c) H (.bl true) := fun H1 e Q k =>
  ⟨.list ([(i : Int), (i : Int)].map PyData.int), .list ([(i : Int), (i : Int)].map PyData.int), .lst (sq_of (e _ _ h1)) (dp_ints [(i : Int), (i : Int)]), .lst (sq_of (e _ _ h2)) (dp_ints [(i : Int), (i : Int)]), PySem.W.ke_shaped_ints _, PySem.W.ke_shaped_ints _, by
    rw [show PyData.eqv (.list ([(i : Int), (i : Int)].map PyData.int)) (.list ([(i : Int), (i : Int)].map PyData.int)) = true by simp [PyData.eqv, PyData.eqvAll]]
    exact k H1 (Ex.refl H1)⟩
theorem q_even {a : Ads} {ta : TA} {vs : List V} {v2 v3 : V} {L : Ln} {E : XK} {j : Nat} (h : EvA ta σ H vs) (e : vs = [.str L.form, v2, v3, .int (L.must : Nat), .int (L.never : Nat)]) (n1 : NmQ H v2 L.o1) (n2 : NmQ H v3 L.o2) (k : ∀ r H1, H r = none → Ex H H1 → ShownAt H1 r L → tz D (σ.set j (some (.ref r))) H1) : tSeq (tAsg (tCall spEven [] E (tCons (tTup ta) tNil)) (gName j)) tz D σ H := by
  subst e
  exact h H (Ex.refl H) _ fun H1 e1 => ⟨sz_of (by show 5 ≤ 100000; decide), fun u hu => ⟨u, v2, v3, L, rfl, upd_same, n1.mono (e1.trans (Ex.new hu)), n2.mono (e1.trans (Ex.new hu)), fun r H2 hr e2 sh => k r H2 (fresh_back (e1.trans (Ex.new hu)) hr) ((e1.trans (Ex.new hu)).trans e2) sh⟩⟩
theorem q_loopC {w : World} {mg : Str → Option Value} {a : Ads} (T : Txt w K mg a) {c l1 l2 p1 p2 r : Addr} {L : Ln} {E1 : XK} (w10 : ∀ x, (σ.set 10 x)[10]? = some x) (w9 : ∀ x, (σ.set 10 x)[9]? = some (some (.ref r))) (w8 : σ[8]? = some (some (.ref c))) (ww : ∃ x, σ = σ.set 10 x)
    (hc : H c = some (.lst [.ref l1, .ref l2])) (h1 : H l1 = some (.lst [.ref p1])) (h2 : H l2 = some (.lst [.ref p2])) (k1 : LineAt a H p1 L) (k2 : LineAt a H p2 L) (ok : LnOk L) (sh : ShownAt H r L) (k : ∀ x H', Ex H H' → tz D (σ.set 10 x) H') :
    tSeq (tFor (iList K (tVar 8)) (gName 10) (tIfS (tOr (tNot (tB (tCB (rIsi K) (tCons (tVar 10) (tCons (tC (.ty "list")) tNil))))) (tTest (tOp rNe (tCB (KD.rReprV K) (tCons (tCall (spShown a) [] E1 (tCons (tOp (rIxL K) (tVar 10) (tC (.int 0))) tNil)) tNil)) (tCB (KD.rReprV K) (tCons (tVar 9) tNil))))) (tRet (tC (.bl false))) tNext)) tz D σ H := by
  obtain ⟨y1, y2, s1, s2⟩ := line_srt K k1
  refine q_forL (ev_var w8) (sq_of hc) (fun i σ' H' => ∃ x, σ' = σ.set 10 x ∧ Ex H H') (fun H1 e1 => ?_) (fun i σ' H' _ h => ?_) (fun i x σ' H' hx h => ?_) fun σ' H' h => ?_
  · obtain ⟨x, hx⟩ := ww
    exact ⟨x, hx, e1⟩
  · obtain ⟨_, _, e⟩ := h
    exact sq_of (e _ _ hc)
  · obtain ⟨y, rfl, e⟩ := h
    have key : ∀ {l q : Addr}, x = .ref l → H l = some (.lst [.ref q]) → LineAt a H q L → gName 10 x (σ.set 10 y) H' fun σ2 H2 => tIfS (tOr (tNot (tB (tCB (rIsi K) (tCons (tVar 10) (tCons (tC (.ty "list")) tNil))))) (tTest (tOp rNe (tCB (KD.rReprV K) (tCons (tCall (spShown a) [] E1 (tCons (tOp (rIxL K) (tVar 10) (tC (.int 0))) tNil)) tNil)) (tCB (KD.rReprV K) (tCons (tVar 9) tNil))))) (tRet (tC (.bl false))) tNext { D with nx := fun σ' H' => ∃ x, σ' = σ.set 10 x ∧ Ex H H', ct := fun σ' H' => ∃ x, σ' = σ.set 10 x ∧ Ex H H', bk := tz D } σ2 H2 := fun {l q} ex hl hq => by
      subst ex
      show tIfS _ _ _ _ ((σ.set 10 y).set 10 (some (.ref l))) H'
      rw [List.set_set]
      have hl := e _ _ hl
      refine s_ifRawS ((et_or (a := false) (b := false) (et_is (et_not (a := true) (et_B (ev_isi (t := .type "list") (ea_cons (ev_var (w10 _)) (ea_cons ev_c ea_nil)) (.ty _) (fun H2 e2 => .base (.lst (e2 _ _ hl))) (kit_ty (by decide +kernel))))) rfl) fun _ => et_is (et_test (ev_op (ev_reprS ok s1 s2 (ep_shown (ev_op (ev_var (w10 _)) ev_c (rv_ixL (K := K) (sq_of hl) rfl)) (hq.mono e))) (ev_reprS ok s1 s2 (ep_at (ev_var (w9 _)) (sh.mono e))) (rv_ne rfl))) (by rw [decide_eq_true rfl]; rfl) : EvT _ _ H' false) H' (Ex.refl _) _ fun H2 e2 => iteC (fun z => nomatch z) fun _ => ⟨_, rfl, e.trans e2⟩)
    match i, hx with
    | 0, hx =>
      cases hx
      exact key rfl h1 k1
    | 1, hx =>
      cases hx
      exact key rfl h2 k2
    | i + 2, hx => simp at hx
  · obtain ⟨x, rfl, e⟩ := h
    exact k x H' e
end
end KP
set_option Elab.async false
set_option linter.all false
set_option maxRecDepth 100000
set_option maxHeartbeats 4000000
namespace KP
open PySem PySem.Spec PyProof.Rows L2 Evl KF
local macro_rules | `(tactic| walk_at "ev") => `(tactic| repeat' (first | exact ev_c | exact ev_var rfl | exact rv_I0 | refine' rv_I ?_ | refine' rv_eq ?_ | refine' rv_ne ?_ | refine' ev_op ?_ ?_ ?_ | exact ea_nil | refine' ea_cons ?_ ?_ | refine' et_test ?_ | refine' et_B ?_ | refine' et_not ?_ | refine' ev_notV ?_))

open PySem LamX KErr KD
def spOdd (a : Ads) : Sp := fun vs H Q _ => ∃ (p t ln lc : Addr) (n : Nat) (L : Ln) (ns : List Str), vs = [.ref p, .ref t, .ref ln] ∧ PenL H p lc n ∧ n + 40 ≤ 99999 ∧ TellAt H t L ∧ LnG L ∧ H ln = some (.lst (ns.map V.str)) ∧ NamesL ns ∧ Tabs (tabsT a) H ∧ ∀ H', StP p H H' → PenL H' p lc (n + 40) → Tabs (tabsT a) H' → Q (.bl true) H'
theorem bp_told {a : Ads} {H : Hp} {p lc : Addr} {n : Nat} {v : V} {o : Option (List Str)} (h : ToldAt H v o) (ok : NamesG o) (pen : PenL H p lc n) : Bp a p H v := by
  cases o with
  | none =>
    obtain rfl : v = .non := h
    exact bp_non
  | some xs =>
    obtain ⟨l, rfl, hl⟩ := h
    obtain ⟨ws, hw⟩ := vwA_of (a := a) (p := p) (H := H) (xs := xs.map V.str) fun x hx => by
      obtain ⟨s, hs, rfl⟩ := List.mem_map.mp hx
      exact bp_str (by have := (ok.ok xs rfl s hs).le; omega)
    exact ⟨.lst ws, .lst (pen.ne_strs hl) hl (by rw [← hw.len, List.length_map]; have := ok.le xs rfl; omega) hw, rfl⟩
section
variable {P : Program} {w : World} {K : PySem.W.Frag} {mg : Str → Option Value} {base : Heap} {a : Ads}
theorem ok_odd (T : Txt w K mg a) (TBR : TabB base mg a.cR a.PR) : FnG P w K mg base 13 a.f__law_odd_right a.d__law_odd_right ["_law_pen_here", "_law_told", "_law_names_here"] (spOdd a) := by
  obtain ⟨oc, od, kV, doc, pm, an, ct, osl, eR, lkR⟩ := T.at__law_odd_right
  rw [eR] at lkR ⊢
  have G__law_draw : FnOk P w K mg base CX0 12 _ _ _ _ := (ok_draw T).mono (by decide)
  have G__law_pick : FnOk P w K mg base CX0 12 _ _ _ _ := (ok_pick T).mono (by decide)
  have G__law_number : FnOk P w K mg base CX0 12 _ _ _ _ := (ok_lnum T).mono (by decide)
  have G__law_due : FnOk P w K mg base CX0 12 _ _ _ _ := (ok_ldue T).mono (by decide)
  have G__law_even : FnOk P w K mg base CX0 12 _ _ _ _ := (ok_even T).mono (by decide)
  have G__law_shown : FnOk P w K mg base CX0 12 _ _ _ _ := (ok_shown T).mono (by decide)
  have G_Mode_init : FnOk P w K mg base CX0 11 _ _ _ _ := (ok_Mode_init T).mono (by decide)
  have L_Line_init : FnOk P w K mg base (L2.CX P w) 7 _ _ _ _ := ok_Line_init T
  obtain ⟨ds5, vl5, bl5⟩ := bd_Line5 T
  obtain ⟨itsK, kbL⟩ := kb_line T
  refine fnG_of lkR T.co__law_odd_right sc__law_odd_right (fun vs H Q E h => ?_) fun A outer s H vs Q E gd hr h => ?_
  · obtain ⟨_, _, _, _, _, _, _, rfl, _⟩ := h
    rfl
  · obtain ⟨p, t, ln, lc, n, L, ns, rfl, pen, hn, tell, okL, hln, nms, tab, kk⟩ := h
    have hrc : Room 12 _ := hr
    have hrm : Room (11 + 1) _ := hr
    have hrX : Room 4 _ := hrc.mono (by decide)
    have hr10 : Room 10 _ := hrc.mono (by decide)
    have hu64 : A.units + 3 + 64 < cLine := by have := hr.un; have e : A.units + 3 + 16 * 12 + 200 < cLine := this; omega
    obtain ⟨ocH, odH, kVH, docH, pmH, anH, cdvH, ctH, oslH, eH, lkH, hcdH⟩ := id T.fn__law_heard.ex
    have hbH := bd__law_heard T
    rw [eH] at lkH hbH
    refine ⟨_, (show PSs (cxOf CX0 P w K mg base n__law_odd_right "_law_odd_right" (defScope s__law_odd_right) a.f__law_odd_right (.ref a.cR) A outer s H E).nox (defBody s__law_odd_right) _ from (pss_cons (ps_set (i := 3) sc__law_odd_right.nd rfl (Or.inl rfl) (pe_lst (pa_cons (pe_lst pa_nil) (pa_cons (pe_tup pa_nil) (pa_cons (pe_op op_rep (pe_lst (pa_cons (pe_ix (ix_listE (K := K) rfl) (pv 2) pe_int (fun _ _ => rfl)) pa_nil)) pe_int) (pa_cons (pe_slice sl_list (pv 2) po_none (po_some pe_int)) (pa_cons pe_str (pa_cons (pe_lst (pa_cons pe_str pa_nil)) (pa_cons (pe_lst (pa_cons pe_str pa_nil)) (pa_cons (pe_lst (pa_cons pe_non pa_nil)) (pa_cons pe_dnewK (pa_cons (pe_lst (pa_cons pe_str pa_nil)) (pa_cons (pe_lst (pa_cons pe_str pa_nil)) (pa_cons pe_int (pa_cons pe_bl pa_nil)))))))))))))))
    (pss_cons (ps_set (i := 4) sc__law_odd_right.nd rfl (Or.inl rfl) (pe_lst (pa_cons pe_int (pa_cons (pe_un un_neg pe_int) (pa_cons pe_non (pa_cons pe_bl (pa_cons pe_str (pa_cons (pe_op op_add pe_int pe_int) (pa_cons (pe_lst (pa_cons pe_int pa_nil)) (pa_cons pe_dnewK pa_nil))))))))))
    (pss_cons (ps_set (i := 5) sc__law_odd_right.nd rfl (Or.inr rfl) (pe_lst (pa_cons (pe_call G__law_pick hrc rfl T.mg__law_pick T.fn__law_pick.kp (bd__law_pick T) .nil pass0 (pa_cons (pv 0) (pa_cons (pe_lst (pa_cons pe_str (pa_cons pe_str (pa_cons pe_non (pa_cons (pe_lst (pa_cons pe_str pa_nil)) (pa_cons pe_int (pa_cons pe_str pa_nil))))))) pa_nil))) (pa_cons (pe_call G__law_pick hrc rfl T.mg__law_pick T.fn__law_pick.kp (bd__law_pick T) .nil pass0 (pa_cons (pv 0) (pa_cons (pv 3) pa_nil))) pa_nil))))
    (pss_cons (ps_expr (pe_bm PySem.F.plainAttrs_list PySem.F.slot_list_append PySem.F.type_list_append mt_append (pv 5) (pa_cons (pe_call G__law_pick hrc rfl T.mg__law_pick T.fn__law_pick.kp (bd__law_pick T) .nil pass0 (pa_cons (pv 0) (pa_cons (pe_op op_cat (pv 3) (pe_lst (pa_cons (pe_lst (pa_cons (pe_lst (pa_cons pe_str pa_nil)) pa_nil)) pa_nil))) pa_nil))) pa_nil)))
    (pss_cons (ps_set (i := 5) sc__law_odd_right.nd rfl (Or.inr rfl) (pe_op op_cat (pv 5) (pe_lst (pa_cons (pe_call G__law_pick hrc rfl T.mg__law_pick T.fn__law_pick.kp (bd__law_pick T) .nil pass0 (pa_cons (pv 0) (pa_cons (pv 4) pa_nil))) (pa_cons (pe_call G__law_pick hrc rfl T.mg__law_pick T.fn__law_pick.kp (bd__law_pick T) .nil pass0 (pa_cons (pv 0) (pa_cons (pe_op op_cat (pv 4) (pe_lst (pa_cons (pe_ix (ix_tupE (K := K) rfl) (pv 1) pe_int (fun _ _ => rfl)) (pa_cons (pe_op op_or (pe_ix (ix_tupE (K := K) rfl) (pv 1) pe_int (fun _ _ => rfl)) pe_int) pa_nil)))) pa_nil))) pa_nil)))))
    (pss_cons (ps_set (i := 11) sc__law_odd_right.nd rfl (Or.inr rfl) (pe_lc (own := [("_law_k", 12)]) (g := gName 12) rfl sc__law_odd_right.nd (pi_range1 rfl T.b_range (pa_cons pe_int pa_nil)) (blkOk_by (own := [("_law_k", 12)]) (N := n__law_odd_right) (sc := defScope s__law_odd_right) (by decide +kernel)) (fun _ _ _ _ _ => (pg_name (i := 12) sc__law_odd_right.nd rfl (Or.inl rfl))) (fun _ _ _ _ _ => pts_nil) (fun _ _ _ _ _ => (pe_ifExp (pt_cmpR op_eq (pe_call G__law_draw hrc rfl T.mg__law_draw T.fn__law_draw.kp (bd__law_draw T) .nil pass0 (pa_cons (pv 0) (pa_cons pe_int pa_nil))) pe_int (nomark _)) (pe_ix (ix_listE (K := K) rfl) (pv 5) (pv 12) (fun _ _ => rfl)) (pe_ix (ix_tupE (K := K) rfl) (pv 1) (pv 12) (fun _ _ => rfl))))))
    (pss_cons (ps_if (PW.pt (pw_and (pt_cmpR op_eq (pe_call G__law_draw hrc rfl T.mg__law_draw T.fn__law_draw.kp (bd__law_draw T) .nil pass0 (pa_cons (pv 0) (pa_cons pe_int pa_nil))) pe_int (nomark _)) (pw_and1 (pt_val (pe_callB call_isi (by rfl) T.b_isinstance PyProof.Rows.boot_isinstance (pa_cons (pe_ix (ix_listE (K := K) rfl) (pv 11) pe_int (fun _ _ => rfl)) (pa_cons (pe_bltn (v := .ty "list") (by rfl) T.b_list (by decide +kernel) rfl) pa_nil))))))) (pss_one (ps_asg (pe_callTy call_tuple_of (by rfl) T.b_tuple (by decide +kernel) (pa_cons (pe_ix (ix_listE (K := K) rfl) (pv 11) pe_int (fun _ _ => rfl)) pa_nil)) (pg_sub (pv 11) pe_int set_list))) pss_nil)
    (pss_cons (ps_for PassesOwn.never rfl (pi_tup (pe_tup (pa_cons pe_int (pa_cons pe_int pa_nil)))) (pg_name (i := 6) sc__law_odd_right.nd rfl (Or.inl rfl)) (pss_one (ps_if (PW.pt (pw_and (pt_cmpR op_eq (pe_call G__law_draw hrc rfl T.mg__law_draw T.fn__law_draw.kp (bd__law_draw T) .nil pass0 (pa_cons (pv 0) (pa_cons pe_int pa_nil))) pe_int (nomark _)) (pw_and1 (pt_cmpR op_notN (pe_call G__law_number hrc rfl T.mg__law_number T.fn__law_number.kp (bd__law_number T) .nil pass0 (pa_cons (pe_ix (ix_listE (K := K) rfl) (pv 11) (pv 6) (fun _ _ => rfl)) pa_nil)) pe_non (nomark _))))) (pss_one (ps_asg (pe_make T.mk_Mode G_Mode_init hrm rfl T.mg_Mode (bd_ModeD_initD T) .nil pass0 (pa_cons (pe_call G__law_number hrc rfl T.mg__law_number T.fn__law_number.kp (bd__law_number T) .nil pass0 (pa_cons (pe_ix (ix_listE (K := K) rfl) (pv 11) (pv 6) (fun _ _ => rfl)) pa_nil)) pa_nil)) (pg_sub (pv 11) (pv 6) set_list))) pss_nil)))
    (pss_cons (ps_set (i := 7) sc__law_odd_right.nd rfl (Or.inl rfl) (pe_call G__law_due hrc rfl T.mg__law_due T.fn__law_due.kp (bd__law_due T) .nil pass0 (pa_cons (pe_ix (ix_listE (K := K) rfl) (pv 11) pe_int (fun _ _ => rfl)) (pa_cons (pe_ix (ix_listE (K := K) rfl) (pv 11) pe_int (fun _ _ => rfl)) (pa_cons (pe_ix (ix_listE (K := K) rfl) (pv 11) pe_int (fun _ _ => rfl)) (pa_cons (pe_ix (ix_listE (K := K) rfl) (pv 11) pe_int (fun _ _ => rfl)) (pa_cons (pe_ix (ix_listE (K := K) rfl) (pv 11) pe_int (fun _ _ => rfl)) pa_nil)))))))
    (pss_cons (ps_set (i := 8) sc__law_odd_right.nd rfl (Or.inl rfl) (pe_lst (pa_cons (LamX.pe_lamcall (T := tabsT a) (TT := THeard a) rfl T.mg__law_heard T.fn__law_heard.kp lkH hcdH hbH sc__law_heard rfl (Or.inl rfl) (heard_gives T hrX) TBR rfl (List.mem_singleton.mpr rfl) (tabs_uR a) (k := 8) hr10 (LamX.lamS_by (show LamX.lamSB (defScope s__law_odd_right) _ = true by decide +kernel)) rfl (fun _ _ _ _ _ => rfl) (fun _ _ _ _ _ _ _ hr2 => (pe_make T.mk_Line L_Line_init (show Room (7 + 1) _ from hr2) rfl T.mg_Line bl5 vl5 (passes_call (takes_of rfl rfl rfl rfl) fun _ _ _ _ h => h) (pa_cons (pe_ix (ix_listE (K := K) rfl) (pv 11) pe_int (fun _ _ => rfl)) (pa_cons (pe_ix (ix_listE (K := K) rfl) (pv 11) pe_int (fun _ _ => rfl)) (pa_cons (pe_ix (ix_listE (K := K) rfl) (pv 11) pe_int (fun _ _ => rfl)) (pa_cons (pe_ix (ix_listE (K := K) rfl) (pv 11) pe_int (fun _ _ => rfl)) (pa_cons (pe_ix (ix_listE (K := K) rfl) (pv 11) pe_int (fun _ _ => rfl)) pa_nil)))))))) pa_nil)))
    (pss_cons (ps_expr (pe_bm PySem.F.plainAttrs_list PySem.F.slot_list_append PySem.F.type_list_append mt_append (pv 8) (pa_cons (LamX.pe_lamcall (T := tabsT a) (TT := THeard a) rfl T.mg__law_heard T.fn__law_heard.kp lkH hcdH hbH sc__law_heard rfl (Or.inl rfl) (heard_gives T hrX) TBR rfl (List.mem_singleton.mpr rfl) (tabs_uR a) (k := 8) hr10 (LamX.lamS_by (show LamX.lamSB (defScope s__law_odd_right) _ = true by decide +kernel)) rfl (fun _ _ _ _ _ => rfl) (fun _ _ _ _ _ _ _ hr2 => (pe_makeK0 T.mk_Line L_Line_init (show Room (7 + 1) _ from hr2) rfl T.mg_Line kbL (passes_call (takes_of rfl rfl rfl rfl) fun _ _ _ _ h => h) (pk_cons (pe_ix (ix_listE (K := K) rfl) (pv 11) pe_int (fun _ _ => rfl)) (pk_cons (pe_ix (ix_listE (K := K) rfl) (pv 11) pe_int (fun _ _ => rfl)) (pk_cons (pe_ix (ix_listE (K := K) rfl) (pv 11) pe_int (fun _ _ => rfl)) (pk_cons (pe_ix (ix_listE (K := K) rfl) (pv 11) pe_int (fun _ _ => rfl)) (pk_cons (pe_ix (ix_listE (K := K) rfl) (pv 11) pe_int (fun _ _ => rfl)) pk_nil)))))))) pa_nil)))
    (pss_cons (ps_if (pt_cmpR op_notN (pv 7) pe_non (nomark _)) (pss_one (ps_ret (pe_cmpR (op_eqD hu64) (pv 8) (pe_lst (pa_cons (pv 7) (pa_cons (pv 7) pa_nil))) (nomark _)))) pss_nil)
    (pss_cons (ps_set (i := 9) sc__law_odd_right.nd rfl (Or.inl rfl) (pe_call G__law_even hrc rfl T.mg__law_even T.fn__law_even.kp (bd__law_even T) .nil pass0 (pa_cons (pe_tup (pa_cons (pe_ix (ix_listE (K := K) rfl) (pv 11) pe_int (fun _ _ => rfl)) (pa_cons (pe_ix (ix_listE (K := K) rfl) (pv 11) pe_int (fun _ _ => rfl)) (pa_cons (pe_ix (ix_listE (K := K) rfl) (pv 11) pe_int (fun _ _ => rfl)) (pa_cons (pe_call G__law_number hrc rfl T.mg__law_number T.fn__law_number.kp (bd__law_number T) .nil pass0 (pa_cons (pe_ix (ix_listE (K := K) rfl) (pv 11) pe_int (fun _ _ => rfl)) pa_nil)) (pa_cons (pe_call G__law_number hrc rfl T.mg__law_number T.fn__law_number.kp (bd__law_number T) .nil pass0 (pa_cons (pe_ix (ix_listE (K := K) rfl) (pv 11) pe_int (fun _ _ => rfl)) pa_nil)) pa_nil)))))) pa_nil)))
    (pss_cons (ps_for PassesOwn.never rfl (pi_list (pv 8)) (pg_name (i := 10) sc__law_odd_right.nd rfl (Or.inl rfl)) (pss_one (ps_if (PW.pt (pw_or (pt_not (pt_val (pe_callB call_isi (by rfl) T.b_isinstance PyProof.Rows.boot_isinstance (pa_cons (pv 10) (pa_cons (pe_bltn (v := .ty "list") (by rfl) T.b_list (by decide +kernel) rfl) pa_nil))))) (pw_or1 (pt_cmpR op_ne (pe_callB (KD.call_reprV gd hu64) (by rfl) T.b_repr PyProof.Rows.boot_repr (pa_cons (pe_call G__law_shown hrc rfl T.mg__law_shown T.fn__law_shown.kp (bd__law_shown T) .nil pass0 (pa_cons (pe_ix (ix_listE (K := K) rfl) (pv 10) pe_int (fun _ _ => rfl)) pa_nil)) pa_nil)) (pe_callB (KD.call_reprV gd hu64) (by rfl) T.b_repr PyProof.Rows.boot_repr (pa_cons (pv 9) pa_nil)) (nomark _))))) (pss_one (ps_ret pe_bl)) pss_nil)))
    (pss_one (ps_ret pe_bl))))))))))))))))), ?_⟩
    obtain ⟨v1, v2, ht, t1, t2⟩ := id tell
    obtain ⟨n0, n1, n2, n3, rfl⟩ : ∃ n0 n1 n2 n3, ns = [n0, n1, n2, n3] := by
      match ns, nms.len with
      | [a, b, c, d], _ => exact ⟨a, b, c, d, rfl⟩
    have sz : ∀ x ∈ [n0, n1, n2, n3], x.cps.size ≤ 1000 := fun x hx => by have := (nms.ok x hx).le; omega
    have z0 := sz n0 (by simp)
    have z1 := sz n1 (by simp)
    have z2 := sz n2 (by simp)
    have tp : t ≠ p := pen.ne_tup ht
    have str1 : ∀ (s : Str) (σ : L2.St) (H : Hp), s.cps.size ≤ 1000 → EvBs (Bp a p) (tCons (tC (.str s)) tNil) σ H 1 := fun s σ H hs => ebs_one (eb_v ev_c fun _ => bp_str hs)
    have all3n : ∀ (H1 : Hp), ∀ x ∈ [V.str n0, .str n1, .str n2], Bp a p H1 x := fun _ x hx => by
      simp only [List.mem_cons, List.not_mem_nil, or_false] at hx
      rcases hx with rfl | rfl | rfl
      · exact bp_str z0
      · exact bp_str z1
      · exact bp_str z2
    have all2n : ∀ (H1 : Hp), ∀ x ∈ [V.str n0, .str n0], Bp a p H1 x := fun _ x hx => by
      simp only [List.mem_cons, List.not_mem_nil, or_false, or_self] at hx
      subst hx
      exact bp_str z0
    -- what is odd
    refine q_asgBs (a := a) (p := p) (k := 13) (ebs_cons (eb_lst pen.pen ebs_nil (by decide)) (ebs_cons (eb_ofU (xs := []) pen.pen (eu_tup (vs := []) ea_nil (by decide)) (fun _ _ z => nomatch z) (by decide))
      (ebs_cons (eb_ofL (xs := [.str n0, .str n0]) pen.pen (el_is (el_rep (k := 2) (el_lst (vs := [.str n0]) (ea_cons (ev_op (ev_var rfl) ev_c (rv_ixL (K := K) (sq_of hln) rfl)) ea_nil) (by show 1 ≤ 100000; decide)) ev_c (by decide) (by show 1 * 2 ≤ 100000; decide)) rfl) all2n (by show 2 ≤ 16; decide))
      (ebs_cons (eb_ofL (xs := [.str n0, .str n1, .str n2]) pen.pen (el_is (el_sl (K := K) (ev_var rfl) eo_none (eo_some ev_c) (sq_of hln)) rfl) all3n (by show 3 ≤ 16; decide))
      (ebs_cons (eb_v ev_c fun _ => bp_str (by decide)) (ebs_cons (eb_lst pen.pen (str1 _ _ _ (by decide)) (by decide)) (ebs_cons (eb_lst pen.pen (str1 _ _ _ (by decide)) (by decide)) (ebs_cons (eb_lst pen.pen (ebs_one (eb_v ev_c fun _ => bp_non)) (by decide)) (ebs_cons (eb_dict pen.pen) (ebs_cons (eb_lst pen.pen (str1 _ _ _ (by decide)) (by decide)) (ebs_cons (eb_lst pen.pen (str1 _ _ _ (by decide)) (by decide)) (ebs_cons (eb_v ev_c fun _ => bp_int) (ebs_cons (eb_v ev_c fun _ => bp_bl) ebs_nil))))))))))))) (by decide) fun l3 xs3 H1 hl3 e1 len3 all3 h3 => ?_
    have pen1 := pen.keep e1
    have l3p : l3 ≠ p := pen.pen.ne_new hl3
    have ht1 := e1 _ _ ht
    have tab1 := tabs_keep tab e1
    refine q_asgBs (a := a) (p := p) (k := 8) (ebs_cons (eb_v ev_c fun _ => bp_int) (ebs_cons (eb_v (ev_un ev_c ru_neg) fun _ => bp_int) (ebs_cons (eb_v ev_c fun _ => bp_non) (ebs_cons (eb_v ev_c fun _ => bp_bl) (ebs_cons (eb_v ev_c fun _ => bp_str (by decide)) (ebs_cons (eb_v (ev_op ev_c ev_c rv_I0) fun _ => bp_int) (ebs_cons (eb_lst pen1.pen (ebs_one (eb_v ev_c fun _ => bp_int)) (by decide)) (ebs_cons (eb_dict pen1.pen) ebs_nil)))))))) (by decide) fun l4 xs4 H2 hl4 e2 len4 all4 h4 => ?_
    have pen2 := pen1.keep e2
    have l4p : l4 ≠ p := pen1.pen.ne_new hl4
    have h32 := e2 _ _ h3
    have all32 : ∀ x ∈ xs3, Bp a p H2 x := fun x hx => (all3 x hx).st (StP.of e2)
    have ee2 : ExP p H H2 := ExP.of (e1.trans e2)
    clear e1 e2 h3 all3 pen1 ht1 tab1 all3n all2n str1
    -- two of them, a third
    refine q_lst2 (pk_disp (a := a) (lc := lc) (k := 6) rfl pen2 (by omega) (ebs_cons (eb_v ev_c fun _ => bp_str (by decide)) (ebs_cons (eb_v ev_c fun _ => bp_str (by decide)) (ebs_cons (eb_v ev_c fun _ => bp_non) (ebs_cons (eb_lst pen2.pen (ebs_one (eb_v ev_c fun _ => bp_str (by decide))) (by decide)) (ebs_cons (eb_v ev_c fun _ => bp_int) (ebs_cons (eb_v ev_c fun _ => bp_str (by decide)) ebs_nil)))))) (by decide) (by decide) fun x1 H3 b1 e3 pen3 => pk_at (a := a) (lc := lc) (j := 3) (l := l3) (xs := xs3) rfl pen3 (by omega) rfl (e3.ex _ _ h32 l3p) l3p (fun x hx => (all32 x hx).st (StP.ofB e3.ex)) (by omega) (by omega) fun x2 H4 b2 e4 pen4 => ⟨by show 2 ≤ sizeLine; rw [sizeLine_eq]; omega, fun c hc => ?_⟩)
    have cp : c ≠ p := pen4.pen.ne_new hc
    have ee4 := (ee2.trans e3).trans e4
    have c0 := ee4.old hc cp
    have h34 := e4.ex _ _ (e3.ex _ _ h32 l3p) l3p
    have h44 := e4.ex _ _ (e3.ex _ _ h4 l4p) l4p
    have en5 := Ex.new hc (o := .lst [x1, x2])
    have two : ∀ x, Bp a p H4 x → B2 a p c (upd H4 c (.lst [x1, x2])) x := fun x b => (b.two hc).st fun b o hb _ _ _ => en5 _ _ hb
    have bx1 := two x1 (b1.st (StP.ofB e4.ex))
    have bx2 := two x2 b2
    have bl3 : ∀ x ∈ xs3, B2 a p c (upd H4 c (.lst [x1, x2])) x := fun x hx => two x (((all32 x hx).st (StP.ofB e3.ex)).st (StP.ofB e4.ex))
    have bl4 : ∀ x ∈ xs4, B2 a p c (upd H4 c (.lst [x1, x2])) x := fun x hx => two x (((all4 x hx).st (StP.ofB e3.ex)).st (StP.ofB e4.ex))
    have pen5 := pen4.keep en5
    have ee5 := ee4.mut (o := .lst [x1, x2]) c0 cp
    have hc5 : upd H4 c (.lst [x1, x2]) c = some (.lst [x1, x2]) := upd_same
    have h35 := en5 _ _ h34
    have h45 := en5 _ _ h44
    have l4c : l4 ≠ c := ne_of_none h44 hc
    generalize upd H4 c (.lst [x1, x2]) = H5 at bx1 bx2 bl3 bl4 pen5 ee5 hc5 h35 h45
    clear two en5 ee4 h34 h44 b1 b2 e3 e4 pen3 pen4 hc all32 h32 h4 all4 pen2 ee2
    obtain ⟨op, hp5⟩ : ∃ o, H5 p = some o := let ⟨_, _, _, h, _⟩ := pen5; ⟨_, h⟩
    refine q_app1 (K := K) (j := 5) rfl hc5 (pk_moreB (B := B2 a p c) (lc := lc) (k := 1) b2_stB rfl pen5 (by omega) (j := 3) rfl h35 bl3 (ebs_one (eb_deep (by decide) hp5 hc5)) (by omega) (by omega) fun x3 H6 b3 e6 pen6 => ⟨c, [x1, x2], x3, rfl, rfl, e6.ex _ _ hc5 cp, by show 2 < sizeLine; rw [sizeLine_eq]; omega, ?_⟩)
    have mv : ∀ {x}, B2 a p c H6 x → B2 a p c (upd H6 c (.lst ([x1, x2] ++ [x3]))) x := fun b => b.st fun b o hb _ n2 _ => by rw [upd_ne n2]; exact hb
    have bx1 := mv (b2_stB _ _ _ bx1 e6.ex)
    have bx2 := mv (b2_stB _ _ _ bx2 e6.ex)
    have bx3 := mv b3
    have bl4 : ∀ x ∈ xs4, B2 a p c (upd H6 c (.lst ([x1, x2] ++ [x3]))) x := fun x hx => mv (b2_stB _ _ _ (bl4 x hx) e6.ex)
    have ee7 := (ee5.trans e6).mut (o := .lst ([x1, x2] ++ [x3])) c0 cp
    have h47 : upd H6 c (.lst ([x1, x2] ++ [x3])) l4 = some (.lst xs4) := by rw [upd_ne l4c]; exact e6.ex _ _ h45 l4p
    have hc7 : upd H6 c (.lst ([x1, x2] ++ [x3])) c = some (.lst [x1, x2, x3]) := upd_same
    have cl : lc ≠ c := fun z => by
      obtain ⟨ns', at_, r, _, h2, _⟩ := pen
      rw [z, c0] at h2
      cases h2
    have pen7 := pen6.upd (d := c) (o := .lst ([x1, x2] ++ [x3])) (Ne.symm cp) cl
    generalize upd H6 c (.lst ([x1, x2] ++ [x3])) = H7 at bx1 bx2 bx3 bl4 ee7 h47 hc7 pen7
    clear mv b3 e6 pen6 hc5 h35 h45 bl3 pen5 ee5 hp5
    have ht7 := ee7.ex _ _ ht tp
    -- and two that are no modes
    refine q_cat2 (i := 5) (j := 5) rfl (pk_at (a := a) (lc := lc) (j := 4) (l := l4) (xs := xs4) rfl pen7 (by omega) rfl h47 l4p (fun x hx => (bl4 x hx).fst) (by omega) (by omega) fun x4 H8 b4 e8 pen8 => pk_moreB (B := Bp a p) (lc := lc) (k := 2) (fun _ _ _ b e => b.st fun b o hb n _ => e b o hb n) rfl pen8 (by omega) (j := 4) rfl (e8.ex _ _ h47 l4p) (fun x hx => (bl4 x hx).fst.st (StP.ofB e8.ex)) (ebs_cons (eb_v (ev_op (ev_var rfl) ev_c (rv_ixT (K := K) (st_of (e8.ex _ _ ht7 tp)) rfl)) fun _ => bp_int) (ebs_one (eb_v (ev_op (ev_op (ev_var rfl) ev_c (rv_ixT (K := K) (st_of (e8.ex _ _ ht7 tp)) rfl)) ev_c rv_I0) fun _ => bp_int))) (by omega) (by omega) fun x5 H9 b5 e9 pen9 => ⟨by show 2 ≤ sizeLine; rw [sizeLine_eq]; omega, fun d hd => ⟨c, d, [x1, x2, x3], [x4, x5], rfl, rfl, ?_, upd_same, by show 3 + 2 ≤ sizeLine; rw [sizeLine_eq]; omega, fun l5 hl5 => ?_⟩⟩)
    · rw [upd_ne (ne_of_none (e9.ex _ _ (e8.ex _ _ hc7 cp) cp) hd)]
      exact e9.ex _ _ (e8.ex _ _ hc7 cp) cp
    have s79 : StP p H7 H9 := (StP.ofB e8.ex).trans (StP.ofB e9.ex)
    have end_ := Ex.new hd (o := .lst [x4, x5])
    have en5 := Ex.new hl5 (o := .lst ([x1, x2, x3] ++ [x4, x5]))
    have s9 := StP.of (p := p) (end_.trans en5)
    have dp : d ≠ p := pen9.pen.ne_new hd
    have l5p : l5 ≠ p := (pen9.keep end_).pen.ne_new hl5
    have ee9 := (ee7.trans e8).trans e9
    have d0 := ee9.old hd dp
    have eed := ee9.mut (o := .lst [x4, x5]) d0 dp
    have ee10 := eed.mut (o := .lst ([x1, x2, x3] ++ [x4, x5])) (eed.old hl5 l5p) l5p
    have pen10 := (pen9.keep end_).keep en5
    have h510 : upd (upd H9 d (.lst [x4, x5])) l5 (.lst ([x1, x2, x3] ++ [x4, x5])) l5 = some (.lst [x1, x2, x3, x4, x5]) := upd_same
    have all10 : ∀ x ∈ [x1, x2, x3, x4, x5], Bp a p (upd (upd H9 d (.lst [x4, x5])) l5 (.lst ([x1, x2, x3] ++ [x4, x5]))) x := fun x hx => by
      simp only [List.mem_cons, List.not_mem_nil, or_false] at hx
      rcases hx with rfl | rfl | rfl | rfl | rfl
      · exact (bx1.fst.st s79).st s9
      · exact (bx2.fst.st s79).st s9
      · exact (bx3.fst.st s79).st s9
      · exact (b4.st (StP.ofB e9.ex)).st s9
      · exact b5.st s9
    generalize upd (upd H9 d (.lst [x4, x5])) l5 (.lst ([x1, x2, x3] ++ [x4, x5])) = H10 at ee10 pen10 h510 all10
    clear eed d0 ee9 dp s9 en5 end_ s79 hd hl5 b4 b5 e8 e9 pen8 pen9 bx1 bx2 bx3 bl4 h47 hc7 pen7 ee7 ht7
    have t10 := ee10.ex _ _ ht tp
    have az : ∀ x ∈ [V.str L.form, v1, v2, .int (L.must : Nat), .int (L.never : Nat)], Bp a p H10 x := fun x hx => by
      simp only [List.mem_cons, List.not_mem_nil, or_false] at hx
      rcases hx with rfl | rfl | rfl | rfl | rfl
      · exact bp_str (by rcases okL.form with e | e <;> rw [e] <;> decide)
      · exact (bp_told t1 okL.n1 pen).st (StP.ofB ee10.ex)
      · exact (bp_told t2 okL.n2 pen).st (StP.ofB ee10.ex)
      · exact bp_int
      · exact bp_int
    refine q_asgRaw (lc_some (a := a) (p := p) (lc := lc) (n := n + 5) (K := K) (l := l5) (t := t) rfl rfl (fun _ => rfl) (fun _ => rfl) (fun _ => rfl) (fun _ => rfl) (fun _ => rfl) pen10 (by omega) h510 l5p t10 tp rfl rfl all10 az fun lp ys H11 hlp ly ally e11 pen11 hlp11 => ?_)
    have lpp : lp ≠ p := pen10.pen.ne_new hlp
    have nl : lc ≠ lp := (pen10.ne hlp).2
    have l0 : H lp = none := ee10.old hlp lpp
    have e011 := ee10.trans e11
    obtain ⟨vs0, ss0, ps11⟩ : ∃ vs ss, PS a p lp H11 vs ss := ps_of hlp11 ly ally
    refine q_stepA T rfl rfl ps11 pen11 (by omega) e011 l0 lpp nl fun H12 vs1 ss1 ps12 pen12 e012 => ?_
    refine q_loopB T (eu_tup (vs := [.int 3, .int 4]) (ea_cons ev_c (ea_cons ev_c ea_nil)) (by decide)) (fun _ => rfl) (fun _ => rfl) (fun _ => rfl) ⟨_, rfl⟩ ps12 pen12 (by omega) e012 l0 lpp nl fun x13 H13 vs ss ps pen13 e013 => ?_
    obtain ⟨u1, u2, u3, u4, u5, f, o, g, m, k5, rfl, ag, _⟩ := ps_five ps
    have hlp13 := ps.at_
    have tab13 : Tabs (tabsT a) H13 := tabs_pen2 tab pen e013
    have s13 : StP p H H13 := StP.ofB e013.ex
    have ix : ∀ {σ : L2.St} {H' : Hp} (j : Nat) {v : V}, σ[11]? = some (some (.ref lp)) → H' lp = some (.lst [u1, u2, u3, u4, u5]) → [u1, u2, u3, u4, u5][j]? = some v → Ev (tOp (rIxL K) (tVar 11) (tC (.int (j : Nat)))) σ H' v := fun {σ H'} j v h hl hv => ev_op (ev_var h) ev_c (rv_ixL (K := K) (sq_of hl) (atI_nat hv))
    refine q_asg (ev_call (vs := [u1, u2, u3, u4, u5]) (ea_cons (ix 0 rfl hlp13 rfl) (ea_cons (ix 1 rfl hlp13 rfl) (ea_cons (ix 2 rfl hlp13 rfl) (ea_cons (ix 3 rfl hlp13 rfl) (ea_cons (ix 4 rfl hlp13 rfl) ea_nil))))) fun H2 e Q q E => ⟨p, u1, u2, u3, u4, u5, f, o, g, m, k5, rfl, ag.st (StP.of e), q⟩) fun H14 e14 => ?_
    have tab14 := tabs_keep tab13 e14
    have ag14 := ag.st (StP.of (p := p) e14)
    have hlp14 := e14 _ _ hlp13
    refine q_lst1 (heard_line (a := a) (T := tabsT a) (p := p) tab14 ag14 (fun H1 eN => have hl := eN _ _ hlp14 (fun _ z => nomatch z); ea_cons (ix 0 rfl hl rfl) (ea_cons (ix 1 rfl hl rfl) (ea_cons (ix 2 rfl hl rfl) (ea_cons (ix 3 rfl hl rfl) (ea_cons (ix 4 rfl hl rfl) ea_nil))))) fun w1 H15 e15 tab15 hr1 => ⟨by show 1 ≤ sizeLine; rw [sizeLine_eq]; omega, fun c hc => ?_⟩)
    have en := Ex.new hc (o := .lst [w1])
    have pen15 := (pen13.keep e14).exN e15
    have hlp15 : H15 lp = _ := e15 _ _ hlp14 (fun _ z => nomatch z)
    have ag15 := (ag14.st (StP.ofN e15)).new hc
    have s15 : StP p H H15 := (s13.trans (StP.of e14)).trans (StP.ofN e15)
    refine q_app1 (K := K) (j := 8) rfl upd_same (heard_lineK (a := a) (T := tabsT a) (p := p) (tabs_keep tab15 en) ((ag14.st (StP.ofN e15)).st (StP.of en)) (fun H1 eN => have hl := eN _ _ (en _ _ hlp15) (fun _ z => nomatch z); ea_cons (ix 4 rfl hl rfl) (ea_cons (ix 3 rfl hl rfl) (ea_cons (ix 2 rfl hl rfl) (ea_cons (ix 1 rfl hl rfl) (ea_cons (ix 0 rfl hl rfl) ea_nil))))) fun w2 H17 e17 tab17 hr2 => ?_)
    have hc17 : H17 c = some (.lst [w1]) := e17 _ _ upd_same (fun _ z => nomatch z)
    refine ⟨c, [w1], w2, rfl, rfl, hc17, by show 1 < sizeLine; rw [sizeLine_eq]; omega, ?_⟩
    have up : StP c H17 (upd H17 c (.lst ([w1] ++ [w2]))) := fun b o hb n _ => by rw [upd_ne n]; exact hb
    have sc : StP c H15 (upd H17 c (.lst ([w1] ++ [w2]))) := ((StP.of en).trans (StP.ofN e17)).trans up
    have s18 : StP p H (upd H17 c (.lst ([w1] ++ [w2]))) := fun b o hb n t => sc b o (s15 b o hb n t) (ne_of_none (s15 b o hb n t) hc) t
    have pen18 : PenL (upd H17 c (.lst ([w1] ++ [w2]))) p lc _ := ((pen15.keep en).exN e17).upd (pen15.ne hc).1 (pen15.ne hc).2
    have tab18 : Tabs (tabsT a) (upd H17 c (.lst ([w1] ++ [w2]))) := tab_app tab17 hc17
    have ag18 := ag15.st sc
    have hlp18 := sc _ _ hlp15 (ne_of_none hlp15 hc) (fun _ z => nomatch z)
    have hr1' := (hr1.mv (d := c) (H' := upd H17 c (.lst ([w1] ++ [w2]))) (fun b u hb n t => sc b u hb n t) (fun b u hb nl => ne_of_none hb hc) (hr1.ne hc))
    have hr17 : HR a H17 w1 (dueW f o g m k5) (lnOf f o g m k5) := hr1.mv (d := c) (fun b u hb n t => e17 _ _ (en _ _ hb) t) (fun b u hb nl => ne_of_none hb hc) (hr1.ne hc)
    have hr2' := (hr2.mv (d := c) (H' := upd H17 c (.lst ([w1] ++ [w2]))) (fun b u hb n t => up b u hb n t) (fun b u hb nl z => by rw [z, hc17] at hb; cases hb; exact nl _ rfl) (hr2.ne2 hr17 hc17))
    have hc18 : upd H17 c (.lst ([w1] ++ [w2])) c = some (.lst [w1, w2]) := upd_same
    generalize upd H17 c (.lst ([w1] ++ [w2])) = H18 at s18 pen18 tab18 ag18 hlp18 hr1' hr2' hc18
    clear hr1 hr2 hr17 up sc hc17 tab17 e17 s15 ag15 hlp15 pen15 en hc tab15 e15 hlp14 ag14 tab14 e14
    have fin : ∀ {H2 : Hp}, Ex H18 H2 → Q (.bl true) H2 := fun {H2} e => kk H2 (s18.trans (StP.of e)) ((pen18.keep e).more (by omega)) (tabs_keep tab18 e)
    refine q_when (b := !decide (dueV (dueW f o g m k5) = .non)) (et_test (ev_op (ev_var rfl) ev_c rv_notN)) (fun yes H19 e19 => ?_) fun no H19 e19 => ?_
    · cases hd : dueW f o g m k5 with
      | none => rw [hd] at yes; exact nomatch (show false = true from yes)
      | some i =>
        rw [hd] at hr1' hr2'
        obtain rfl : w1 = .int (i : Nat) := hr1'
        obtain rfl : w2 = .int (i : Nat) := hr2'
        exact s_ret (v := .bl true) (ev_opVL (ev_var rfl) (el_lst (vs := [.int (i : Nat), .int (i : Nat)]) (ea_cons (ev_var rfl) (ea_cons (ev_var rfl) ea_nil)) (by show 2 ≤ 100000; decide)) fun q H1 e1 hq => rv_eq2I (e1 _ _ (e19 _ _ hc18)) hq) fun H2 e2 => fin (e19.trans e2)
    · have hd : dueW f o g m k5 = none := by
        cases hd : dueW f o g m k5 with
        | none => rfl
        | some i => rw [hd] at no; exact nomatch (show true = false from no)
      rw [hd] at hr1' hr2'
      obtain ⟨l1, p1, rfl, hl1, k1⟩ := hr1'
      obtain ⟨l2, p2, rfl, hl2, k2⟩ := hr2'
      have G := good_of ag18 hd
      have hlp19 := e19 _ _ hlp18
      have num : ∀ {σ : L2.St} {H2 : Hp} {E : XK} (j : Nat) (v : V) (s : Sh), Ex H18 H2 → σ[11]? = some (some (.ref lp)) → [u1, u2, u3, u4, u5][j]? = some v → Vw a c H18 v s → Ev (tCall (spLNum a) [] E (tCons (tOp (rIxL K) (tVar 11) (tC (.int (j : Nat)))) tNil)) σ H2 (numV s) := fun {σ H2 E} j v s e h hv w => ev_call (vs := [v]) (ea_cons (ix j h (e _ _ hlp18) hv) ea_nil) fun H6 e6 Q q E => ⟨c, v, s, rfl, w.mono (e.trans e6), q⟩
      refine q_even (a := a) (L := lnOf f o g m k5) (vs := [u1, u2, u3, numV m, numV k5]) (ea_cons (ix 0 rfl hlp19 rfl) (ea_cons (ix 1 rfl hlp19 rfl) (ea_cons (ix 2 rfl hlp19 rfl) (ea_cons (num 3 u4 m e19 rfl rfl ag18.h4) (ea_cons (num 4 u5 k5 e19 rfl rfl ag18.h5) ea_nil))))) (by rw [G.v1, G.m1, G.m2]) (G.n1.mono e19) (G.n2.mono e19) fun r H21 hr e21 sh => ?_
      replace e21 := e19.trans e21
      exact q_loopC T (fun _ => rfl) (fun _ => rfl) rfl ⟨_, rfl⟩ (e21 _ _ hc18) (e21 _ _ hl1) (e21 _ _ hl2) (k1.mono e21) (k2.mono e21) G.ok sh fun x H22 e22 => s_ret (v := .bl true) ev_c fun H2 e2 => fin ((e21.trans e22).trans e2)
end
end KP
set_option Elab.async false
set_option linter.all false
set_option maxRecDepth 100000
set_option maxHeartbeats 4000000
namespace KP
open PySem PySem.Spec PyProof.Rows L2 Evl KF
local macro_rules | `(tactic| walk_at "ev") => `(tactic| repeat' (first | exact ev_c | exact ev_var rfl | exact rv_I0 | refine' rv_I ?_ | refine' rv_eq ?_ | refine' rv_ne ?_ | refine' ev_op ?_ ?_ ?_ | exact ea_nil | refine' ea_cons ?_ ?_ | refine' et_test ?_ | refine' et_B ?_ | refine' et_not ?_ | refine' ev_notV ?_))

open PySem LamX KErr KD
/-! ### told values by their shape -/
def shO : Option (List Str) → Sh
  | none => .non
  | some xs => .lst (xs.map Sh.str)
theorem nmS_of {s : Str} (h : NameOk s) : nmS s = true := by
  unfold nmS
  rw [Bool.and_eq_true, Bool.and_eq_true, decide_eq_true_iff, decide_eq_true_iff]
  exact ⟨⟨h.pos, h.le⟩, List.all_eq_true.mpr fun c hc => decide_eq_true (h.all c hc)⟩
theorem fm_str : ∀ xs : List Str, (xs.map Sh.str).filterMap strOf = xs
  | [] => rfl
  | x :: xs => by
    have ih := fm_str xs
    rw [List.map_cons, List.filterMap_cons_some (show strOf (.str x) = some x from rfl), ih]
theorem shO_names : ∀ o : Option (List Str), oW (shO o) = o
  | none => rfl
  | some xs => by
    show some _ = _
    rw [fm_str]
theorem shO_told {o : Option (List Str)} (h : NamesG o) : toldW (shO o) = true := by
  cases o with
  | none => rfl
  | some xs =>
    have h1 := h.pos xs rfl
    have h2 := h.le xs rfl
    have h3 := h.ok xs rfl
    have h4 := h.nd xs rfl
    show seqOk (xs.map Sh.str) = true
    unfold seqOk unW
    rw [List.length_map, fm_str, decide_eq_true h1, decide_eq_true h2, decide_eq_true h4, Bool.and_true, Bool.and_true, Bool.true_and, List.all_eq_true]
    intro w hw
    obtain ⟨s, hs, rfl⟩ := List.mem_map.mp hw
    exact nmS_of (h3 s hs)
theorem NamesG.names {o : Option (List Str)} (h : NamesG o) : NamesOk o := fun xs e => ⟨h.le xs e, fun s hs => nmS_of (h.ok xs e s hs)⟩
theorem LnG.lnOk {L : Ln} (h : LnG L) : LnOk L := ⟨h.n1.names, h.n2.names, h.form, h.must, h.never⟩
theorem vwA_strs {a : Ads} {p : Addr} {H : Hp} : ∀ {xs : List Str}, (∀ x ∈ xs, NameOk x) → VwA a p H (xs.map V.str) (xs.map Sh.str)
  | [], _ => .nil
  | x :: xs, h => .cons (.str x (by have := (h x (List.mem_cons_self ..)).le; omega)) (vwA_strs fun y hy => h y (List.mem_cons_of_mem _ hy))
theorem told_vw {a : Ads} {p lc : Addr} {n : Nat} {H : Hp} {v : V} {o : Option (List Str)} (h : ToldAt H v o) (ok : NamesG o) (pen : PenL H p lc n) : Vw a p H v (shO o) := by
  cases o with
  | none =>
    obtain rfl : v = .non := h
    exact .non
  | some xs =>
    obtain ⟨l, rfl, hl⟩ := h
    exact .lst (pen.ne_strs hl) hl (by rw [List.length_map]; have := ok.le xs rfl; omega) (vwA_strs (ok.ok xs rfl))
theorem num_of {m : Nat} (h : m < 512) : numW (.int (m : Nat)) = some m := by
  show (if 0 ≤ ((m : Nat) : Int) ∧ ((m : Nat) : Int) ≤ 511 then some ((m : Nat) : Int).toNat else none) = some m
  rw [if_pos ⟨by omega, by omega⟩, Int.toNat_natCast]
theorem due_told {L : Ln} (h : LnG L) : dueW (.str L.form) (shO L.o1) (shO L.o2) (.int (L.must : Nat)) (.int (L.never : Nat)) = none := by
  unfold dueW
  rw [if_neg (by rw [show formW (.str L.form) = true from decide_eq_true h.form]; decide), if_neg (by rw [shO_told h.n1]; decide), if_neg (by rw [shO_told h.n2]; decide), num_of h.must, num_of h.never]
  show (if _ = (0 : Int) then none else some 4) = none
  rw [if_pos h.apart]
theorem ln_told {L : Ln} (h : LnG L) : lnOf (.str L.form) (shO L.o1) (shO L.o2) (.int (L.must : Nat)) (.int (L.never : Nat)) = L := by
  unfold lnOf
  rw [shO_names, shO_names, num_of h.must, num_of h.never]
  rfl
/-! the other way round -/
def revL (L : Ln) : Ln := { L with o1 := L.o1.map List.reverse }
theorem NamesG.rev {o : Option (List Str)} (h : NamesG o) : NamesG (o.map List.reverse) := by
  cases o with
  | none => exact h
  | some xs => exact ⟨fun ys e => by cases e; rw [List.length_reverse]; exact h.pos xs rfl, fun ys e => by cases e; rw [List.length_reverse]; exact h.le xs rfl, fun ys e x hx => by cases e; exact h.ok xs rfl x (List.mem_reverse.mp hx), fun ys e => by cases e; exact ((List.reverse_perm xs).nodup_iff).mpr (h.nd xs rfl)⟩
theorem LnG.rev {L : Ln} (h : LnG L) : LnG (revL L) := ⟨h.form, h.n1.rev, h.n2, h.must, h.never, h.apart⟩
theorem line_rev {a : Ads} {H : Hp} {b : Addr} {L : Ln} (h : LineAt a H b (revL L)) : LineAt a H b L := by
  obtain ⟨dx, v1, v2, m1, m2, h0, k1, k2, h3, h4⟩ := h
  refine ⟨dx, v1, v2, m1, m2, h0, ?_, k2, h3, h4⟩
  have k1 : KeptAt H v1 (L.o1.map List.reverse) := k1
  revert k1
  cases L.o1 with
  | none => exact id
  | some xs => exact fun ⟨l, ys, e, p, s, hl⟩ => ⟨l, ys, e, p.trans (List.reverse_perm xs), s, hl⟩
/-! what stays -/
theorem ToldAt.st {H H' : Hp} {p lc : Addr} {n : Nat} {v : V} {o : Option (List Str)} (h : ToldAt H v o) (pen : PenL H p lc n) (e : StP p H H') : ToldAt H' v o := by
  cases o with
  | none => exact h
  | some xs =>
    obtain ⟨l, hv, hl⟩ := h
    exact ⟨l, hv, e _ _ hl (pen.ne_strs hl) fun _ z => nomatch z⟩
theorem TellAt.st {H H' : Hp} {p lc t : Addr} {n : Nat} {L : Ln} (h : TellAt H t L) (pen : PenL H p lc n) (e : StP p H H') : TellAt H' t L := let ⟨v1, v2, h0, h1, h2⟩ := h; ⟨v1, v2, e _ _ h0 (pen.ne_tup h0) (fun _ z => nomatch z), h1.st pen e, h2.st pen e⟩
theorem TellAt.nm {H : Hp} {t : Addr} {L : Ln} (h : TellAt H t L) (ok : LnG L) : ∃ v1 v2, H t = some (.tup [.str L.form, v1, v2, .int (L.must : Nat), .int (L.never : Nat)]) ∧ NmQ H v1 L.o1 ∧ NmQ H v2 L.o2 := by
  obtain ⟨v1, v2, h0, h1, h2⟩ := h
  have key : ∀ {v : V} {o : Option (List Str)}, ToldAt H v o → NamesG o → NmQ H v o := fun {v o} h ok => by
    cases o with
    | none => exact h
    | some xs =>
      obtain ⟨l, hv, hl⟩ := h
      exact ⟨l, hv, .inl hl, by have := ok.le xs rfl; omega⟩
  exact ⟨v1, v2, h0, key h1 ok.n1, key h2 ok.n2⟩
/-- what came before -/
def Past (a : Ads) (p : Addr) (H : Hp) (q : Addr) (M : Ln) : Prop := ∃ t b, H q = some (.lst [.ref t, .ref b]) ∧ q ≠ p ∧ TellAt H t M ∧ LnG M ∧ LineAt a H b M
theorem Past.st {a : Ads} {p lc q : Addr} {n : Nat} {H H' : Hp} {M : Ln} (h : Past a p H q M) (pen : PenL H p lc n) (e : StP p H H') : Past a p H' q M := let ⟨t, b, h1, h2, h3, h4, h5⟩ := h; ⟨t, b, e _ _ h1 h2 (fun _ z => nomatch z), h2, h3.st pen e, h4, h5.st pen.pen e⟩
theorem Past.keep {a : Ads} {p q : Addr} {H H' : Hp} {M : Ln} (h : Past a p H q M) (e : Ex H H') : Past a p H' q M := let ⟨t, b, h1, h2, h3, h4, h5⟩ := h; ⟨t, b, e _ _ h1, h2, h3.mono e, h4, h5.mono e⟩
/-! a line made -/
def EvArg (a : Ads) (p : Addr) (dvs : List V) (ta : TA) (σ : L2.St) (H : Hp) (f o g m n : Sh) : Prop := ∀ H1, Ex H H1 → ∀ Q : List V → Hp → Prop, (∀ vs v1 v2 v3 v4 v5 H2, Ex H1 H2 → vs ++ dvs = [v1, v2, v3, v4, v5] → Args a p H2 v1 v2 v3 v4 v5 f o g m n → Q vs H2) → ta σ H1 Q
def EvLn (a : Ads) (te : TE) (σ : L2.St) (H : Hp) (L : Ln) : Prop := ∀ H1, Ex H H1 → ∀ Q : VK, (∀ b H2, H1 b = none → Ex H1 H2 → LineAt a H2 b L → Q (.ref b) H2) → te σ H1 Q
section
variable {K : PySem.W.Frag} {σ : L2.St} {H : Hp} {a : Ads} {p lc : Addr} {dvs : List V} {ta : TA} {te t1 t2 t3 t4 t5 tb : TE} {f o g m n : Sh} {L M : Ln} {E : XK} {v : V} {tz : TS} {D : Ends}
theorem eg_five (h1 : EvP t1 σ H fun H v => Vw a p H v f) (h2 : EvP t2 σ H fun H v => Vw a p H v o) (h3 : EvP t3 σ H fun H v => Vw a p H v g) (h4 : EvP t4 σ H fun H v => Vw a p H v m) (h5 : EvP t5 σ H fun H v => Vw a p H v n) (nf : isM f = false) : EvArg a p [] (tCons t1 (tCons t2 (tCons t3 (tCons t4 (tCons t5 tNil))))) σ H f o g m n := fun H1 e Q q =>
  h1 H1 e _ fun v1 H2 e2 w1 => h2 H2 (e.trans e2) _ fun v2 H3 e3 w2 => h3 H3 ((e.trans e2).trans e3) _ fun v3 H4 e4 w3 => h4 H4 (((e.trans e2).trans e3).trans e4) _ fun v4 H5 e5 w4 => h5 H5 ((((e.trans e2).trans e3).trans e4).trans e5) _ fun v5 H6 e6 w5 =>
    q _ v1 v2 v3 v4 v5 H6 ((((e2.trans e3).trans e4).trans e5).trans e6) rfl ⟨w1.mono (((e3.trans e4).trans e5).trans e6), w2.mono ((e4.trans e5).trans e6), w3.mono (e5.trans e6), w4.mono e6, w5, nf⟩
theorem eg_one {s : Str} (h : Ev te σ H (.str s)) (hs : s.cps.size ≤ 1000) : EvArg a p [.non, .non, .int 0, .int 0] (tCons te tNil) σ H (.str s) .non .non (.int 0) (.int 0) := fun H1 e Q q =>
  h H1 e _ fun H2 e2 => q _ (.str s) .non .non (.int 0) (.int 0) H2 e2 rfl ⟨.str s hs, .non, .non, .int 0, .int 0, rfl⟩
theorem el_new (h : EvArg a p dvs ta σ H f o g m n) (due : dueW f o g m n = none) : EvLn a (tMake a.f_Line (spLine a) dvs E ta) σ H (lnOf f o g m n) := fun H1 e Q q =>
  h H1 e _ fun vs v1 v2 v3 v4 v5 H2 e2 ev ag b db hb hdb hne => by
    have hb2 : upd H2 db (.own b) b = none := by rw [upd_ne (Ne.symm hne)]; exact hb
    have en : Ex H2 (upd (upd H2 db (.own b)) b (.ins a.f_Line db [])) := (Ex.new hdb).trans (Ex.new hb2)
    rw [ev]
    exact ⟨b, db, v1, v2, v3, v4, v5, f, o, g, m, n, rfl, (ag.new hb).st (StP.of en), upd_same, fun dn H3 ex cl => ⟨rfl, q b H3 (fresh_back e2 hb) (fun c u hc => ex _ _ (en _ _ (e2 _ _ hc)) (ne_of_none (e2 _ _ hc) hb)) cl⟩, fun i hi => by rw [due] at hi; cases hi⟩
theorem el_told (ok : LnG L) (h1 : EvP t1 σ H fun H v => Vw a p H v (.str L.form)) (h2 : EvP t2 σ H fun H v => Vw a p H v (shO L.o1)) (h3 : EvP t3 σ H fun H v => Vw a p H v (shO L.o2)) (h4 : EvP t4 σ H fun H v => Vw a p H v (.int (L.must : Nat))) (h5 : EvP t5 σ H fun H v => Vw a p H v (.int (L.never : Nat))) :
    EvLn a (tMake a.f_Line (spLine a) [] E (tCons t1 (tCons t2 (tCons t3 (tCons t4 (tCons t5 tNil)))))) σ H L := by
  have h := el_new (E := E) (eg_five h1 h2 h3 h4 h5 rfl) (due_told ok)
  rw [ln_told ok] at h
  exact h
theorem ep_vw {s : Sh} (h : Ev te σ H v) (w : Vw a p H v s) : EvP te σ H fun H v => Vw a p H v s := fun H1 e Q q => h H1 e _ fun H2 e2 => q v H2 e2 (w.mono (e.trans e2))
theorem ep_new {s : Sh} {xs : List V} (h : EvL te σ H xs) (w : ∀ l H1, Ex H H1 → H l = none → H1 l = some (.lst xs) → Vw a p H1 (.ref l) s) : EvP te σ H fun H v => Vw a p H v s := fun H1 e Q q => h H1 e _ fun l H2 hl e2 h2 => q _ H2 e2 (w l H2 (e.trans e2) (fresh_back e hl) h2)
theorem el_rev {l : Addr} {xs : List V} (h : Ev te σ H (.ref l)) (hl : H l = some (.lst xs)) : EvL (tRevL K te) σ H xs.reverse := fun H1 e Q q => h H1 e _ fun H2 e2 => ⟨l, xs, rfl, sq_of ((e.trans e2) _ _ hl), fun p hp => q p _ (fresh_back e2 hp) (e2.trans (Ex.new hp)) upd_same⟩
theorem el_listO {l : Addr} {xs : List V} (h : Ev te σ H (.ref l)) (hl : H l = some (.lst xs)) : EvL (tCB (fun xs H Q => ∃ p ys, xs = [V.ref p] ∧ (SqL K H p ys ∨ SqT K H p ys) ∧ ∀ l, H l = none → Q (.ref l) (upd H l (.lst ys))) (tCons te tNil)) σ H xs := fun H1 e Q q => h H1 e _ fun H2 e2 => ⟨l, xs, rfl, .inl (sq_of ((e.trans e2) _ _ hl)), fun p hp => q p _ (fresh_back e2 hp) (e2.trans (Ex.new hp)) upd_same⟩
/-- what is told, even -/
theorem ep_even {t : Addr} (h : Ev te σ H (.ref t)) (tl : TellAt H t L) (ok : LnG L) : EvP (tCall spEven [] E (tCons te tNil)) σ H fun H v => ∃ t, v = .ref t ∧ ShownAt H t L := fun H1 e Q q => h H1 e _ fun H2 e2 => by
  obtain ⟨v1, v2, h0, n1, n2⟩ := (tl.mono (e.trans e2)).nm ok
  exact ⟨t, v1, v2, L, rfl, h0, n1, n2, fun r H3 hr e3 sh => q _ H3 (e2.trans e3) ⟨r, rfl, sh⟩⟩
theorem eqv_o (y z : Option (List Str)) : PyData.eqv (dO y) (dO z) = decide (y = z) := by
  cases y with
  | none => cases z with
    | none => simp [dO, PyData.eqv]
    | some _ => simp [dO, PyData.eqv]
  | some ys => cases z with
    | none => simp [dO, PyData.eqv]
    | some zs =>
      show PyData.eqvAll _ _ = _
      rw [KV.eqv_strs]
      simp
theorem eqv_ln {y1 y2 z1 z2 : Option (List Str)} (s1 : SrtO L.o1 y1) (s2 : SrtO L.o2 y2) (r1 : SrtO M.o1 z1) (r2 : SrtO M.o2 z2) : PyData.eqv (dLn L y1 y2) (dLn M z1 z2) = eqLn L M := by
  have e1 : decide (y1 = z1) = eqO L.o1 M.o1 := by rw [Bool.eq_iff_iff, decide_eq_true_iff]; exact s1.same r1
  have e2 : decide (y2 = z2) = eqO L.o2 M.o2 := by rw [Bool.eq_iff_iff, decide_eq_true_iff]; exact s2.same r2
  unfold eqLn
  rw [← e1, ← e2]
  show PyData.eqvAll _ _ = _
  simp only [PyData.eqvAll, eqv_o, PyData.eqv]
  rw [Bool.eq_iff_iff]
  simp [Int.ofNat_inj]
theorem ev_eqSh (okL : LnOk L) (okM : LnOk M) (h1 : EvP te σ H fun H v => ∃ t, v = .ref t ∧ ShownAt H t L) (h2 : EvP tb σ H fun H v => ∃ t, v = .ref t ∧ ShownAt H t M) : Ev (tOp (rEqD K) te tb) σ H (.bl (eqLn L M)) := fun H1 e Q q =>
  h1 H1 e _ fun v1 H2 e2 ⟨t1, ev1, sh1⟩ => h2 H2 (e.trans e2) _ fun v2 H3 e3 ⟨t2, ev2, sh2⟩ => by
    subst ev1 ev2
    obtain ⟨y1, y2, s1, s2, d1⟩ := shown_dp (K := K) (sh1.mono e3)
    obtain ⟨z1, z2, r1, r2, d2⟩ := shown_dp (K := K) sh2
    refine ⟨_, _, d1, d2, dLn_shaped okL s1 s2, dLn_shaped okM r1 r2, ?_⟩
    rw [eqv_ln s1 s2 r1 r2]
    exact q H3 (e2.trans e3)
theorem ev_eqLL {w : World} {mg : Str → Option Value} (T : Txt w K mg a) {b c : Addr} (h1 : Ev te σ H (.ref b)) (hb : LineAt a H b L) (okL : LnOk L) (h2 : Ev tb σ H (.ref c)) (hc : LineAt a H c M) (okM : LnOk M) : Ev (tOp (KD.rOwnB K a.f_Line (fun vs H Q E => spLEq a (vs ++ []) H Q E) E) te tb) σ H (.bl (eqLn L M)) := fun H1 e Q q =>
  h1 H1 e _ fun H2 e2 => h2 H2 (e.trans e2) _ fun H3 e3 => by
    have eb := (e.trans e2).trans e3
    obtain ⟨dx, v1, v2, m1, m2, h0, _⟩ := hb.mono eb
    exact ⟨b, dx, _, _, rfl, h0, tyx_line T (hc.mono eb), T.nf_Line, b, L, .ref c, eqLn L M, rfl, hb.mono eb, okL, .inl ⟨c, M, rfl, hc.mono eb, okM, rfl⟩, fun H4 e4 => q H4 ((e2.trans e3).trans e4)⟩
theorem ev_neLL {b c : Addr} (h1 : Ev te σ H (.ref b)) (hb : LineAt a H b L) (okL : LnOk L) (h2 : Ev tb σ H (.ref c)) (hc : LineAt a H c M) (okM : LnOk M) : Ev (tOp (rOwnNe a.f_Line (fun vs H Q E => spLEq a (vs ++ []) H Q E) E) te tb) σ H (.bl (!eqLn L M)) := fun H1 e Q q =>
  h1 H1 e _ fun H2 e2 => h2 H2 (e.trans e2) _ fun H3 e3 => by
    have eb := (e.trans e2).trans e3
    obtain ⟨dx, v1, v2, m1, m2, h0, _⟩ := hb.mono eb
    obtain ⟨dy, w1, w2, n1, n2, k0, _⟩ := hc.mono eb
    exact ⟨b, dx, _, c, dy, _, rfl, rfl, h0, k0, b, L, .ref c, eqLn L M, rfl, hb.mono eb, okL, .inl ⟨c, M, rfl, hc.mono eb, okM, rfl⟩, fun H4 e4 => ⟨_, rfl, q H4 ((e2.trans e3).trans e4)⟩⟩
theorem ev_eqLT {w : World} {mg : Str → Option Value} (T : Txt w K mg a) {b : Addr} (h1 : Ev te σ H (.ref b)) (hb : LineAt a H b L) (okL : LnOk L) (h2 : EvP tb σ H fun H v => ∃ t, v = .ref t ∧ ShownAt H t M) : Ev (tOp (KD.rOwnB K a.f_Line (fun vs H Q E => spLEq a (vs ++ []) H Q E) E) te tb) σ H (.bl false) := fun H1 e Q q =>
  h1 H1 e _ fun H2 e2 => h2 H2 (e.trans e2) _ fun v H3 e3 ⟨t, ev, sh⟩ => by
    subst ev
    have eb := (e.trans e2).trans e3
    obtain ⟨dx, v1, v2, m1, m2, h0, _⟩ := hb.mono eb
    obtain ⟨w1, w2, ht, _⟩ := sh
    exact ⟨b, dx, _, .type "tuple", rfl, h0, .base (.tup ht), T.nf_Line_tuple, b, L, .ref t, false, rfl, hb.mono eb, okL, .inr ⟨t, _, rfl, ht, rfl⟩, fun H4 e4 => q H4 ((e2.trans e3).trans e4)⟩
/-! lent, a line of it, then more lent -/
theorem q_lent {y0 y1 y2 y3 y4 y6 y7 y8 : Option V} {t : Addr} (ok : LnG L) (tl : TellAt H t L) {n1 : Nat} (pen : PenL H p lc n1) (k : ∀ o6 b H', Ex H H' → LineAt a H' b L → tz D [y0, y1, y2, y3, y4, some (.ref t), o6, some (.ref b), y8] H') :
    tSeq (tAsg (tIf (tTest (tOp (fun x y H Q => y = .non ∧ Q (.bl (!decide (x = .non))) H) (tOp (rIxT K) (tVar 5) (tC (.int 1))) (tC .non)))
      (tCB (fun xs H Q => ∃ p ys, xs = [V.ref p] ∧ (SqL K H p ys ∨ SqT K H p ys) ∧ ∀ l, H l = none → Q (.ref l) (upd H l (.lst ys))) (tCons (tOp (rIxT K) (tVar 5) (tC (.int 1))) tNil)) (tC .non)) (gName 6))
    (tSeq (tAsg (tMake a.f_Line (spLine a) [] E (tCons (tOp (rIxT K) (tVar 5) (tC (.int 0))) (tCons (tVar 6) (tCons (tOp (rIxT K) (tVar 5) (tC (.int 2))) (tCons (tOp (rIxT K) (tVar 5) (tC (.int 3))) (tCons (tOp (rIxT K) (tVar 5) (tC (.int 4))) tNil)))))) (gName 7))
    (tSeq (tIfS (tTest (tOp (fun x y H Q => y = .non ∧ Q (.bl (!decide (x = .non))) H) (tVar 6) (tC .non))) (tDrop (tBM K "list" rAppend (tVar 6) (tCons (tC (.str "zz")) tNil))) tNext) tz)) D [y0, y1, y2, y3, y4, some (.ref t), y6, y7, y8] H := by
  obtain ⟨v1, v2, h0, t1, t2⟩ := id tl
  have sz : L.form.cps.size ≤ 1000 := by rcases ok.form with e | e <;> rw [e] <;> decide
  have made : ∀ {v6 : V} {H1 : Hp} (Q : VK), Ex H H1 → Vw a p H1 v6 (shO L.o1) → (∀ b H2, H1 b = none → Ex H1 H2 → LineAt a H2 b L → Q (.ref b) H2) → (tMake a.f_Line (spLine a) [] E (tCons (tOp (rIxT K) (tVar 5) (tC (.int 0))) (tCons (tVar 6) (tCons (tOp (rIxT K) (tVar 5) (tC (.int 2))) (tCons (tOp (rIxT K) (tVar 5) (tC (.int 3))) (tCons (tOp (rIxT K) (tVar 5) (tC (.int 4))) tNil)))))) [y0, y1, y2, y3, y4, some (.ref t), some v6, y7, y8] H1 Q := fun {v6 H1} Q e1 w6 q => by
    have h01 := e1 _ _ h0
    exact el_told (E := E) ok (ep_vw (ev_op (ev_var rfl) ev_c (rv_ixT (K := K) (st_of h01) rfl)) (.str _ sz)) (ep_vw (ev_var rfl) w6) (ep_vw (ev_op (ev_var rfl) ev_c (rv_ixT (K := K) (st_of h01) rfl)) ((told_vw t2 ok.n2 pen).mono e1)) (ep_vw (ev_op (ev_var rfl) ev_c (rv_ixT (K := K) (st_of h01) rfl)) (.int _)) (ep_vw (ev_op (ev_var rfl) ev_c (rv_ixT (K := K) (st_of h01) rfl)) (.int _)) H1 (Ex.refl _) Q q
  cases ho : L.o1 with
  | none =>
    rw [ho] at t1
    obtain rfl : v1 = .non := t1
    refine q_asg (v := .non) (ev_if (b := false) (et_is (et_test (ev_op (ev_op (ev_var rfl) ev_c (rv_ixT (K := K) (st_of h0) rfl)) ev_c rv_notN)) rfl) (fun z => nomatch z) fun _ => ev_c) fun H1 e1 => ?_
    refine q_asgRaw (made _ e1 (by rw [ho]; exact .non) fun b H2 hb e2 line => ?_)
    exact q_when (b := false) (et_is (et_test (ev_op (ev_var rfl) ev_c rv_notN)) rfl) (fun z => nomatch z) fun _ H3 e3 => k _ b H3 ((e1.trans e2).trans e3) (line.mono e3)
  | some xs =>
    rw [ho] at t1
    obtain ⟨l0, rfl, hl0⟩ := t1
    have nz : decide (V.ref l0 = .non) = false := decide_eq_false fun z => nomatch z
    refine q_asgRaw (((ep_if (b := true) (et_is (et_test (ev_op (ev_op (ev_var rfl) ev_c (rv_ixT (K := K) (st_of h0) rfl)) ev_c rv_notN)) (by rw [nz]; rfl)) (fun _ => fun H1 e Q q => (el_listO (K := K) (ev_op (ev_var rfl) ev_c (rv_ixT (K := K) (st_of h0) rfl)) hl0 : EvL _ _ H _) H1 e Q fun l H2 hl e2 h2 => q _ H2 e2 ⟨l, rfl, fresh_back e hl, h2⟩) fun z => nomatch z) : EvP _ _ H fun H1 v => ∃ l, v = .ref l ∧ H l = none ∧ H1 l = some (.lst (xs.map V.str))) H (Ex.refl _) _ fun v6 H1 e1 ⟨l, ev6, hl, h1⟩ => ?_)
    subst ev6
    have lp : l ≠ p := pen.pen.ne_new hl
    refine q_asgRaw (made _ e1 (by rw [ho]; exact .lst lp h1 (by rw [List.length_map]; have := ok.n1.le xs ho; omega) (vwA_strs (ok.n1.ok xs ho))) fun b H2 hb e2 line => ?_)
    have h12 := e2 _ _ h1
    refine q_ifRaw (M := fun σ2 H3 => σ2 = [y0, y1, y2, y3, y4, some (.ref t), some (.ref l), some (.ref b), y8] ∧ Ex H H3 ∧ LineAt a H3 b L) (fun kM => ?_) fun σ2 H3 ⟨e, h3, ln⟩ => e ▸ k _ b H3 h3 ln
    refine (et_is (et_test (ev_op (ev_var rfl) ev_c rv_notN)) (by rw [decide_eq_false (fun z : V.ref l = .non => nomatch z)]; rfl) : EvT _ [y0, y1, y2, y3, y4, some (.ref t), some (.ref l), some (.ref b), y8] H2 true) H2 (Ex.refl _) _ fun H3 e3 => iteC (fun _ => ?_) fun z => nomatch z
    have h13 := e3 _ _ h12
    refine s_app1 (K := K) (j := 6) (l := l) rfl h13 ((ev_c : Ev (tC (.str "zz")) _ H3 _) H3 (Ex.refl _) _ fun H4 e4 => ⟨l, _, .str "zz", rfl, rfl, e4 _ _ h13, ?_, ?_⟩)
    · rw [List.length_map, sizeLine_eq]
      have := ok.n1.le xs ho
      omega
    · exact kM _ _ ⟨rfl, ((((e1.trans e2).trans e3).trans e4)).mut hl, ((line.mono e3).mono e4).app (e4 _ _ h13)⟩
end
end KP
set_option Elab.async false
set_option linter.all false
set_option maxRecDepth 100000
set_option maxHeartbeats 4000000
namespace KP
open PySem PySem.Spec PyProof.Rows L2 Evl KF
local macro_rules | `(tactic| walk_at "ev") => `(tactic| repeat' (first | exact ev_c | exact ev_var rfl | exact rv_I0 | refine' rv_I ?_ | refine' rv_eq ?_ | refine' rv_ne ?_ | refine' ev_op ?_ ?_ ?_ | exact ea_nil | refine' ea_cons ?_ ?_ | refine' et_test ?_ | refine' et_B ?_ | refine' et_not ?_ | refine' ev_notV ?_))

open PySem LamX KErr KD
theorem FnG_mono {P : Program} {w : World} {K : PySem.W.Frag} {mg : Str → Option Value} {base : Heap} {k n : Nat} {f : Addr} {fd : FuncData} {ps : List Str} {sp : Sp} (F : KD.FnG P w K mg base k f fd ps sp) (h : k ≤ n) : KD.FnG P w K mg base n f fd ps sp := ⟨F.len, fun A gd r => F.run A gd (r.mono h)⟩
def spLaw (a : Ads) (K : PySem.W.Frag) : Sp := fun vs H Q _ => ∃ (s : Addr) (ns : List Int), vs = [.ref s] ∧ SqL K H s (ns.map V.int) ∧ ns.length ≤ 63 ∧ H a.PR = some (.tbl #[]) ∧ ∀ H', Q (.bl true) H'
def lnV (s : Str) : Ln := ⟨s, none, none, 0, 0⟩
theorem lnV_ok {s : Str} (h : s = "file" ∨ s = "folder") : LnG (lnV s) := ⟨h, .non, .non, by show 0 < 512; decide, by show 0 < 512; decide, by show Builtin.bitAnd ((0 : Nat) : Int) ((0 : Nat) : Int) = 0; decide⟩
theorem eqO_refl : ∀ o : Option (List Str), eqO o o = true
  | none => rfl
  | some xs => List.isPerm_iff.mpr (List.Perm.refl xs)
theorem eqLn_refl (L : Ln) : eqLn L L = true := by
  unfold eqLn
  rw [eqO_refl, eqO_refl, decide_eq_true rfl, decide_eq_true rfl, decide_eq_true rfl]
  rfl
section
variable {K : PySem.W.Frag} {σ : L2.St} {H : Hp} {a : Ads} {te : TE} {L : Ln} {E : XK} {s : Str} {ta : TA}
theorem el_one (h : Ev te σ H (.str s)) (hs : s = "file" ∨ s = "folder") : EvLn a (tMake a.f_Line (spLine a) [.non, .non, .int 0, .int 0] E (tCons te tNil)) σ H (lnV s) := by
  have h := el_new (E := E) (eg_one (a := a) (p := 0) h (by rcases hs with e | e <;> rw [e] <;> decide)) (due_told (L := lnV s) (lnV_ok hs))
  exact h
theorem ep_shownN (h : EvLn a te σ H L) : EvP (tCall (spShown a) [] E (tCons te tNil)) σ H fun H v => ∃ t, v = .ref t ∧ ShownAt H t L := fun H1 e Q q =>
  h H1 e _ fun b H2 hb e2 line => ⟨b, L, rfl, line, fun t H3 ht e3 sh => q _ H3 (e2.trans e3) ⟨t, rfl, sh⟩⟩
theorem ep_shownV (h : EvA ta σ H [.str s, .non, .non, .int 0, .int 0]) : EvP (tTup ta) σ H fun H v => ∃ t, v = .ref t ∧ ShownAt H t (lnV s) := fun H1 e Q q =>
  eu_tup h (by show 5 ≤ 100000; decide) H1 e _ fun t H2 ht e2 h2 => q _ H2 e2 ⟨t, rfl, .non, .non, h2, rfl, rfl⟩
end
section
variable {P : Program} {w : World} {K : PySem.W.Frag} {mg : Str → Option Value} {base : Heap} {a : Ads}
theorem ok_law (T : Txt w K mg a) (TBR : TabB base mg a.cR a.PR) {fL : Addr} {oc kV doc pm cdv ct : Value} {od an : Option Addr} {osl : Array (Option Value)} (lkL : K.lookup fL = some ⟨oc, od, .func (PySem.W.fnOf "law" "law" (defArgs s_law) (defBody s_law) (defScope s_law) .none kV doc pm an cdv ct), osl⟩) (hcdL : PySem.W.codeIn K cdv "law" = true) :
    KD.FnG P w K mg base 14 fL (PySem.W.fnOf "law" "law" (defArgs s_law) (defBody s_law) (defScope s_law) .none kV doc pm an cdv ct) ["_law_script"] (spLaw a K) := by
  have G__law_pen : FnOk P w K mg base CX0 13 _ _ _ _ := (ok_pen T).mono (by decide)
  have G__law_names : FnOk P w K mg base CX0 13 _ _ _ _ := (ok_names T).mono (by decide)
  have G__law_line : FnOk P w K mg base CX0 13 _ _ _ _ := (ok_lline T).mono (by decide)
  have G__law_even : FnOk P w K mg base CX0 13 _ _ _ _ := (ok_even T).mono (by decide)
  have G__law_shown : FnOk P w K mg base CX0 13 _ _ _ _ := (ok_shown T).mono (by decide)
  have G__law_odd_right : KD.FnG P w K mg base 13 _ _ _ _ := ok_odd T TBR
  have G_Line_must : FnOk P w K mg base CX0 12 _ _ _ _ := (ok_Line_must T).mono (by decide)
  have G_Line_eq : FnOk P w K mg base CX0 12 _ _ _ _ := (ok_Line_eq T).mono (by decide)
  have L_Line_init : FnOk P w K mg base (L2.CX P w) 12 _ _ _ _ := (ok_Line_init T).mono (by decide)
  obtain ⟨ds5, vl5, bl5⟩ := bd_Line5 T
  obtain ⟨ds1, vl1, bl1⟩ := bd_Line1 T
  refine KD.fnG_of lkL hcdL sc_law (fun vs H Q E h => ?_) fun A outer s H vs Q E gd hr h => ?_
  · obtain ⟨_, _, rfl, _⟩ := h
    rfl
  · obtain ⟨sc, ns, rfl, hs, hl, tb0, kk⟩ := h
    have tab : Tabs (tabsT a) H := fun q hq => by
      rw [List.mem_singleton.mp hq]
      exact TabS.nil tb0
    have hrc : Room 13 _ := hr
    have hrm : Room (12 + 1) _ := hr
    have hr12 : Room 12 _ := hrc.mono (by decide)
    have hu64 : A.units + 3 + 64 < cLine := by have := hr.un; have e : A.units + 3 + 16 * 13 + 200 < cLine := this; omega
    refine ⟨_, (show PSs (cxOf CX0 P w K mg base n_law "law" (defScope s_law) fL cdv A outer s H E).nox (defBody s_law) _ from (pss_cons (ps_set (i := 1) sc_law.nd rfl (Or.inl rfl) (pe_call G__law_pen hrc rfl T.mg__law_pen T.fn__law_pen.kp (bd__law_pen T) .nil pass0 (pa_cons (pv 0) pa_nil)))
    (pss_cons (ps_set (i := 2) sc_law.nd rfl (Or.inl rfl) (pe_lst (pa_cons (pe_tup (pa_cons pe_str (pa_cons pe_non (pa_cons pe_non (pa_cons pe_int (pa_cons pe_int pa_nil)))))) (pa_cons (pe_make T.mk_Line L_Line_init hrm rfl T.mg_Line bl1 vl1 passL (pa_cons pe_str pa_nil)) pa_nil))))
    (pss_cons (ps_for PassesOwn.never rfl (pi_range1 rfl T.b_range (pa_cons pe_int pa_nil)) (pg_name (i := 3) sc_law.nd rfl (Or.inl rfl)) (pss_cons (ps_set (i := 4) sc_law.nd rfl (Or.inl rfl) (pe_call G__law_names hrc rfl T.mg__law_names T.fn__law_names.kp (bd__law_names T) .nil pass0 (pa_cons (pv 1) (pa_cons pe_int pa_nil))))
    (pss_cons (ps_set (i := 5) sc_law.nd rfl (Or.inl rfl) (pe_call G__law_line hrc rfl T.mg__law_line T.fn__law_line.kp (bd__law_line T) .nil pass0 (pa_cons (pv 1) (pa_cons (pv 4) pa_nil))))
    (pss_cons (ps_if (pt_not (pt_val (KD.pe_callG (E := fun _ _ _ => False) G__law_odd_right gd hrc rfl T.mg__law_odd_right T.fn__law_odd_right.kp (bd__law_odd_right T) (pa_cons (pv 1) (pa_cons (pv 5) (pa_cons (pv 4) pa_nil)))))) (pss_one (ps_ret pe_bl)) pss_nil)
    (pss_cons (ps_set (i := 6) sc_law.nd rfl (Or.inl rfl) (pe_ifExp (pt_cmpR op_notN (pe_ix ix_tup (pv 5) pe_int (fun _ _ => rfl)) pe_non (nomark _)) (pe_callTy call_list_of (by rfl) T.b_list (by decide +kernel) (pa_cons (pe_ix ix_tup (pv 5) pe_int (fun _ _ => rfl)) pa_nil)) pe_non))
    (pss_cons (ps_set (i := 7) sc_law.nd rfl (Or.inl rfl) (pe_make T.mk_Line L_Line_init hrm rfl T.mg_Line bl5 vl5 passL (pa_cons (pe_ix ix_tup (pv 5) pe_int (fun _ _ => rfl)) (pa_cons (pv 6) (pa_cons (pe_ix ix_tup (pv 5) pe_int (fun _ _ => rfl)) (pa_cons (pe_ix ix_tup (pv 5) pe_int (fun _ _ => rfl)) (pa_cons (pe_ix ix_tup (pv 5) pe_int (fun _ _ => rfl)) pa_nil)))))))
    (pss_cons (ps_if (pt_cmpR op_notN (pv 6) pe_non (nomark _)) (pss_one (ps_expr (pe_bm PySem.F.plainAttrs_list PySem.F.slot_list_append PySem.F.type_list_append mt_append (pv 6) (pa_cons pe_str pa_nil)))) pss_nil)
    (pss_cons (ps_if (PW.pt (pw_or (pt_cmpR op_ne (pe_callB (KD.call_reprV gd hu64) (by rfl) T.b_repr PyProof.Rows.boot_repr (pa_cons (pe_call G__law_shown hrc rfl T.mg__law_shown T.fn__law_shown.kp (bd__law_shown T) .nil pass0 (pa_cons (pv 7) pa_nil)) pa_nil)) (pe_callB (KD.call_reprV gd hu64) (by rfl) T.b_repr PyProof.Rows.boot_repr (pa_cons (pe_call G__law_even hrc rfl T.mg__law_even T.fn__law_even.kp (bd__law_even T) .nil pass0 (pa_cons (pv 5) pa_nil)) pa_nil)) (nomark _)) (pw_or1 (pt_not (pt_val (pe_callB call_isi (by rfl) T.b_isinstance PyProof.Rows.boot_isinstance (pa_cons (pe_prop (pv 7) T.c_Line T.p_Line_must G_Line_must hrm (bd_Line_must T) .nil pass0 rfl) (pa_cons (pe_glob (v := .ref a.f_Mode) rfl T.mg_Mode rfl) pa_nil)))))))) (pss_one (ps_ret pe_bl)) pss_nil)
    (pss_cons (ps_set (i := 8) sc_law.nd rfl (Or.inl rfl) (pe_cmpR (op_eqD hu64) (pe_call G__law_even hrc rfl T.mg__law_even T.fn__law_even.kp (bd__law_even T) .nil pass0 (pa_cons (pv 5) pa_nil)) (pe_call G__law_even hrc rfl T.mg__law_even T.fn__law_even.kp (bd__law_even T) .nil pass0 (pa_cons (pe_ix ix_list (pv 2) pe_int (fun _ _ => rfl)) pa_nil)) (nomark _)))
    (pss_cons (ps_if (PW.pt (pw_or (pt_cmpR op_ne (pe_cmpR (op_ownBE (K := K) (op := .Eq) rfl (by intro _ _; rfl) T.m_LineD_eqD.at_ T.m_LineD_eqD.fn (G_Line_eq.raw (bd_LineD_eqD T) .nil) hr12 pass0) (pv 7) (pe_ix ix_list (pv 2) pe_int (fun _ _ => rfl)) (nomark _)) (pv 8) (nomark _)) (pw_or (pt_cmpR op_eq (pe_cmpR (op_ownNe T.en_Line T.im_Line T.m_LineD_eqD.at_ T.m_LineD_eqD.fn (G_Line_eq.raw (bd_LineD_eqD T) .nil) hrc pass0) (pv 7) (pe_ix ix_list (pv 2) pe_int (fun _ _ => rfl)) (nomark _)) (pv 8) (nomark _)) (pw_or1 (pt_cmpR (op_ownBE (K := K) (op := .Eq) rfl (by intro _ _; rfl) T.m_LineD_eqD.at_ T.m_LineD_eqD.fn (G_Line_eq.raw (bd_LineD_eqD T) .nil) hr12 pass0) (pv 7) (pe_call G__law_shown hrc rfl T.mg__law_shown T.fn__law_shown.kp (bd__law_shown T) .nil pass0 (pa_cons (pv 7) pa_nil)) (nomark _)))))) (pss_one (ps_ret pe_bl)) pss_nil)
    (pss_cons (ps_set (i := 2) sc_law.nd rfl (Or.inl rfl) (pe_lst (pa_cons (pv 5) (pa_cons (pe_make T.mk_Line L_Line_init hrm rfl T.mg_Line bl5 vl5 passL (pa_cons (pe_ix ix_tup (pv 5) pe_int (fun _ _ => rfl)) (pa_cons (pe_ifExp (pt_cmpR op_isN (pe_ix ix_tup (pv 5) pe_int (fun _ _ => rfl)) pe_non (nomark _)) pe_non (pe_revL (pe_ix ix_tup (pv 5) pe_int (fun _ _ => rfl)))) (pa_cons (pe_ix ix_tup (pv 5) pe_int (fun _ _ => rfl)) (pa_cons (pe_ix ix_tup (pv 5) pe_int (fun _ _ => rfl)) (pa_cons (pe_ix ix_tup (pv 5) pe_int (fun _ _ => rfl)) pa_nil)))))) pa_nil))))
    (pss_one (ps_if (pt_not (pt_cmpR (op_ownBE (K := K) (op := .Eq) rfl (by intro _ _; rfl) T.m_LineD_eqD.at_ T.m_LineD_eqD.fn (G_Line_eq.raw (bd_LineD_eqD T) .nil) hr12 pass0) (pv 7) (pe_ix ix_list (pv 2) pe_int (fun _ _ => rfl)) (nomark _))) (pss_one (ps_ret pe_bl)) pss_nil)))))))))))))
    (pss_one (ps_ret (pe_cmpR op_eq (pe_callB (KD.call_reprV gd hu64) (by rfl) T.b_repr PyProof.Rows.boot_repr (pa_cons (pe_call G__law_shown hrc rfl T.mg__law_shown T.fn__law_shown.kp (bd__law_shown T) .nil pass0 (pa_cons (pe_make T.mk_Line L_Line_init hrm rfl T.mg_Line bl1 vl1 passL (pa_cons pe_str pa_nil)) pa_nil)) pa_nil)) (pe_callB (KD.call_reprV gd hu64) (by rfl) T.b_repr PyProof.Rows.boot_repr (pa_cons (pe_tup (pa_cons pe_str (pa_cons pe_non (pa_cons pe_non (pa_cons pe_int (pa_cons pe_int pa_nil)))))) pa_nil)) (nomark _)))))))), ?_⟩
    refine q_asgRaw ⟨.ref sc, rfl, sc, ns, rfl, hs, hl, fun p H1 hp e1 pen1 => ?_⟩
    obtain ⟨lc, pen1⟩ := pen1.fixL
    refine q_lst2 (eu_tup (vs := [.str "file", .non, .non, .int 0, .int 0]) (ea_cons ev_c (ea_cons ev_c (ea_cons ev_c (ea_cons ev_c (ea_cons ev_c ea_nil))))) (by show 5 ≤ 100000; decide) H1 (Ex.refl _) _ fun t0 H2 ht2 e2 h2 => el_one (s := "file") ev_c (.inl rfl) H2 (Ex.refl _) _ fun b0 H3 hb3 e3 line3 => ⟨by show 2 ≤ sizeLine; rw [sizeLine_eq]; omega, fun q hq => ?_⟩)
    have en := Ex.new hq (o := .lst [.ref t0, .ref b0])
    have e14 := (e2.trans e3).trans en
    have past0 : Past a p (upd H3 q (.lst [.ref t0, .ref b0])) q (lnV "file") := ⟨t0, b0, upd_same, (pen1.keep (e2.trans e3)).pen.ne_new hq, ⟨.non, .non, (e3.trans en) _ _ h2, rfl, rfl⟩, lnV_ok (.inl rfl), line3.mono en⟩
    have pen4 := pen1.keep e14
    have tab4 := tabs_keep tab (e1.trans e14)
    refine q_forR1 (n := 12) (ea_cons ev_c ea_nil) (by decide) (fun i σ' H' => ∃ q M o3 o4 o5 o6 o7 o8, σ' = [some (.ref sc), some (.ref p), some (.ref q), o3, o4, o5, o6, o7, o8] ∧ PenL H' p lc (70 * i) ∧ Tabs (tabsT a) H' ∧ Past a p H' q M) (fun H5 e5 => ⟨q, _, _, _, _, _, _, _, rfl, pen4.keep e5, tabs_keep tab4 e5, past0.keep e5⟩) (fun i σ' H5 hi qq => ?_) (fun σ' H5 qq => ?_)
    · obtain ⟨q, M, o3, o4, o5, o6, o7, o8, rfl, pen5, tab5, past5⟩ := qq
      have hi12 : i < 12 := by omega
      clear past0 pen4 tab4 e14 en hq line3 h2 ht2 hb3 e2 e3
      refine q_asgRaw ⟨.ref p, rfl, p, lc, 70 * i, rfl, pen5, by omega, fun ln ns H6 hln e6 pen6 h6 nms => ?_⟩
      refine q_asgRaw ⟨.ref p, rfl, .ref ln, rfl, p, lc, ln, _, ns, rfl, pen6, by omega, h6, nms, fun t L H7 ht e7 pen7 tell7 okL => ?_⟩
      have h7 := e7.ex _ _ h6 (pen6.ne_strs h6)
      have tab7 := tabs_pen2 (tabs_pen2 tab5 pen5 e6) pen6 e7
      refine q_ifRaw (M := fun _ _ => False) (fun _ => ⟨.ref p, rfl, .ref t, rfl, .ref ln, rfl, p, t, ln, lc, _, L, ns, rfl, pen7, by omega, tell7, okL, h7, nms, tab7, fun H8 s8 pen8 tab8 => ⟨true, rfl, iteC (fun z => nomatch z) fun _ => ?_⟩⟩) (fun _ _ z => z.elim)
      have past8 := past5.st pen5 (((StP.ofB e6.ex).trans (StP.ofB e7.ex)).trans s8)
      have tell8 := tell7.st pen7 s8
      have ok := okL.lnOk
      refine q_lent okL tell8 pen8 fun o6 b H9 e9 line9 => ?_
      have tell9 := tell8.mono e9
      obtain ⟨y1, y2, s1, s2⟩ := line_srt K line9
      obtain ⟨dx, w1, w2, m1, m2, hb9, _, _, mm1, _⟩ := id line9
      refine q_when (b := false) (et_is (et_or (a := false) (b := false) (et_is (et_test (ev_op (ev_reprS ok s1 s2 (ep_shown (ev_var rfl) line9)) (ev_reprS ok s1 s2 (ep_even (ev_var rfl) tell9 okL)) (rv_ne rfl))) (by rw [decide_eq_true rfl]; rfl)) fun _ => et_is (et_not (a := true) (et_B (ev_isi (t := .ref a.f_Mode) (ea_cons (ev_prop (ev_var rfl) hb9 (spv_get hb9 (fs_must _ _ _ _ _))) (ea_cons ev_c ea_nil)) (.own _) (fun H' e' => tyx_mode T (mm1.mono e')) T.is_Mode))) rfl) rfl) (fun z => nomatch z) fun _ H10 e10 => ?_
      have line10 := line9.mono e10
      have tell10 := tell9.mono e10
      obtain ⟨tM, bM, hq10, qp, tellM, okM, lineM⟩ := past8.keep (e9.trans e10)
      refine q_asg (ev_eqSh (K := K) ok okM.lnOk (ep_even (ev_var rfl) tell10 okL) (ep_even (ev_op (ev_var rfl) ev_c (rv_ixL (K := K) (sq_of hq10) rfl)) tellM okM)) fun H11 e11 => ?_
      have line11 := line10.mono e11
      have hq11 := e11 _ _ hq10
      refine q_when (b := false) (et_is (et_or (a := false) (b := false) (et_is (et_test (ev_op (ev_eqLL T (ev_var rfl) line11 ok (ev_op (ev_var rfl) ev_c (rv_ixL (K := K) (sq_of hq11) rfl)) (lineM.mono e11) okM.lnOk) (ev_var rfl) (rv_ne rfl))) (by rw [decide_eq_true rfl]; rfl)) fun _ => et_is (et_or (a := false) (b := false) (et_is (et_test (ev_op (ev_neLL (ev_var rfl) line11 ok (ev_op (ev_var rfl) ev_c (rv_ixL (K := K) (sq_of hq11) rfl)) (lineM.mono e11) okM.lnOk) (ev_var rfl) (rv_eq rfl))) (by cases eqLn L M <;> rfl)) fun _ => et_test (ev_eqLT T (ev_var rfl) line11 ok (ep_shown (ev_var rfl) line11))) rfl) rfl) (fun z => nomatch z) fun _ H12 e12 => ?_
      have e812 := ((e9.trans e10).trans e11).trans e12
      have pen12 := pen8.keep e812
      have tell12 := tell8.mono e812
      have line12 := line11.mono e12
      obtain ⟨v1, v2, h0, t1, t2⟩ := id tell12
      have sz : L.form.cps.size ≤ 1000 := by rcases okL.form with e | e <;> rw [e] <;> decide
      have rev : EvP (tIf (tTest (tOp (fun x y H Q => y = .non ∧ Q (.bl (decide (x = .non))) H) (tOp (rIxT K) (tVar 5) (tC (.int 1))) (tC .non))) (tC .non) (tRevL K (tOp (rIxT K) (tVar 5) (tC (.int 1))))) [some (.ref sc), some (.ref p), some (.ref q), some (.int (i : Nat)), some (.ref ln), some (.ref t), o6, some (.ref b), some (.bl (eqLn L M))] H12 fun H v => Vw a p H v (shO (revL L).o1) := by
        show EvP _ _ _ fun H v => Vw a p H v (shO (L.o1.map List.reverse))
        have n1 := okL.n1
        revert t1 n1
        cases L.o1 with
        | none =>
          intro t1 _
          obtain rfl : v1 = .non := t1
          exact ep_if (b := true) (et_is (et_test (ev_op (ev_op (ev_var rfl) ev_c (rv_ixT (K := K) (st_of h0) rfl)) ev_c rv_isN)) rfl) (fun _ => ep_vw ev_c .non) fun z => nomatch z
        | some xs =>
          intro t1 n1
          obtain ⟨l0, rfl, hl0⟩ := t1
          refine ep_if (b := false) (et_is (et_test (ev_op (ev_op (ev_var rfl) ev_c (rv_ixT (K := K) (st_of h0) rfl)) ev_c rv_isN)) (decide_eq_false fun z => nomatch z)) (fun z => nomatch z) fun _ => ep_new (el_rev (K := K) (ev_op (ev_var rfl) ev_c (rv_ixT (K := K) (st_of h0) rfl)) hl0) fun l H1 e1 hl h1 => ?_
          rw [← List.map_reverse] at h1
          have nr := NamesG.rev n1
          exact .lst (pen12.pen.ne_new hl) h1 (by rw [List.length_map]; have := nr.le _ rfl; omega) (vwA_strs (nr.ok _ rfl))
      refine q_lst2 ⟨.ref t, rfl, el_told (L := revL L) (p := p) okL.rev (ep_vw (ev_op (ev_var rfl) ev_c (rv_ixT (K := K) (st_of h0) rfl)) (.str _ sz)) rev (ep_vw (ev_op (ev_var rfl) ev_c (rv_ixT (K := K) (st_of h0) rfl)) (told_vw t2 okL.n2 pen12)) (ep_vw (ev_op (ev_var rfl) ev_c (rv_ixT (K := K) (st_of h0) rfl)) (.int _)) (ep_vw (ev_op (ev_var rfl) ev_c (rv_ixT (K := K) (st_of h0) rfl)) (.int _)) H12 (Ex.refl _) _ fun b2 H13 hb2 e13 line13 => ⟨by show 2 ≤ sizeLine; rw [sizeLine_eq]; omega, fun q2 hq2 => ?_⟩⟩
      have en2 := Ex.new hq2 (o := .lst [.ref t, .ref b2])
      have e14 := e13.trans en2
      have lineN := (line_rev line13).mono en2
      have hq14 : upd H13 q2 (.lst [.ref t, .ref b2]) q2 = some (.lst [.ref t, .ref b2]) := upd_same
      have q2p : q2 ≠ p := (pen12.keep e13).pen.ne_new hq2
      generalize upd H13 q2 (.lst [.ref t, .ref b2]) = H14 at e14 lineN hq14
      refine s_if (b := false) (et_is (et_not (a := true) (et_is (et_test (ev_eqLL T (ev_var rfl) (line12.mono e14) ok (ev_op (ev_var rfl) ev_c (rv_ixL (K := K) (sq_of hq14) rfl)) lineN ok)) (eqLn_refl L))) rfl) (fun z => nomatch z) fun _ H15 e15 => ⟨q2, L, _, _, _, _, _, _, rfl, (pen12.keep (e14.trans e15)).more (by omega), tabs_keep tab8 (e812.trans (e14.trans e15)), t, b2, e15 _ _ hq14, q2p, tell12.mono (e14.trans e15), okL, lineN.mono e15⟩
    · obtain ⟨q, M, o3, o4, o5, o6, o7, o8, rfl, _⟩ := qq
      have okV := (lnV_ok (s := "folder") (.inr rfl)).lnOk
      exact s_ret (v := .bl true) (ev_is (ev_op (ev_reprS (y1 := none) (y2 := none) okV trivial trivial (ep_shownN (el_one (s := "folder") ev_c (.inr rfl)))) (ev_reprS (y1 := none) (y2 := none) okV trivial trivial (ep_shownV (ea_cons ev_c (ea_cons ev_c (ea_cons ev_c (ea_cons ev_c (ea_cons ev_c ea_nil))))))) (rv_eq rfl)) (by rw [decide_eq_true rfl])) fun H3 e3 => kk H3
end
end KP
set_option Elab.async false
set_option linter.all false
set_option maxRecDepth 100000
set_option maxHeartbeats 4000000
namespace KP
open PySem PySem.Spec PyProof.Rows L2 Evl KF
local macro_rules | `(tactic| walk_at "ev") => `(tactic| repeat' (first | exact ev_c | exact ev_var rfl | exact rv_I0 | refine' rv_I ?_ | refine' rv_eq ?_ | refine' rv_ne ?_ | refine' ev_op ?_ ?_ ?_ | exact ea_nil | refine' ea_cons ?_ ?_ | refine' et_test ?_ | refine' et_B ?_ | refine' et_not ?_ | refine' ev_notV ?_))

open PySem LamX KD
theorem kit_self {K : PySem.W.Frag} {C : Addr} : PySem.W.kitOne K (.ref C) (.ref C) = some true := by
  unfold PySem.W.kitOne
  rw [if_pos (beq_iff_eq.mpr rfl)]
theorem kit_no {K : PySem.W.Frag} {C : Addr} {cd : PySem.ClassData} (ci : PySem.W.clsIn K C = some cd) (ti : PySem.W.typeIn K (.ref C) = some (.type "type")) (su : PySem.W.subIn K (.type "int") (.ref C) = some false) : PySem.W.kitOne K (.type "int") (.ref C) = some false := by
  unfold PySem.W.kitOne PySem.W.kitCls
  rw [if_neg (fun h => by have := beq_iff_eq.mp h; cases this)]
  show (if ((PySem.W.clsIn K C).isSome && PySem.W.typeIn K (.ref C) == some (.type "type")) = true then PySem.W.subIn K (.type "int") (.ref C) else none) = some false
  rw [if_pos (by rw [ci, ti]; simp), su]
theorem tup_at {K : PySem.W.Frag} {H : Hp} {k : Addr} {its : Array Value} {n : Nat} {od : Option Addr} {sl : Array (Option Value)} {xs : List V} (l : K.lookup k = some ⟨.type "tuple", od, .seq its n, sl⟩) (z : its.size ≤ sizeLine) (r : Vals xs its.toList) : SqT K H k xs := .inr ⟨_, its, n, l, rfl, rfl, z, r⟩
theorem kit_ref {K : PySem.W.Frag} {D B : Addr} {cd : PySem.ClassData} {b : Bool} (ci : PySem.W.clsIn K B = some cd) (ti : PySem.W.typeIn K (.ref B) = some (.type "type")) (su : PySem.W.subIn K (.ref D) (.ref B) = some b) (ne : D ≠ B) : PySem.W.kitOne K (.ref D) (.ref B) = some b := by
  unfold PySem.W.kitOne PySem.W.kitCls
  rw [if_neg (fun h => by have := beq_iff_eq.mp h; cases this; exact ne rfl)]
  show (if ((PySem.W.clsIn K B).isSome && PySem.W.typeIn K (.ref B) == some (.type "type")) = true then PySem.W.subIn K (.ref D) (.ref B) else none) = some b
  rw [if_pos (by rw [ci, ti]; simp), su]
theorem kit_ve {K : PySem.W.Frag} {D : Addr} {b : Bool} (su : PySem.W.subIn K (.ref D) (.type "ValueError") = some b) : PySem.W.kitOne K (.ref D) (.type "ValueError") = some b := by
  unfold PySem.W.kitOne PySem.W.kitCls
  rw [if_neg (fun h => by have := beq_iff_eq.mp h; cases this)]
  show (if PySem.W.kitMeta "ValueError" = true then PySem.W.subIn K (.ref D) (.type "ValueError") else none) = some b
  rw [if_pos (by decide +kernel), su]
theorem exm_ref {K : PySem.W.Frag} {D B : Addr} {cd : PySem.ClassData} {b : Bool} (ex : PySem.W.subIn K (.ref B) (.type "BaseException") = some true) (ci : PySem.W.clsIn K B = some cd) (ti : PySem.W.typeIn K (.ref B) = some (.type "type")) (su : PySem.W.subIn K (.ref D) (.ref B) = some b) : PySem.W.exmOne K (.ref D) (.ref B) = some b := by
  unfold PySem.W.exmOne PySem.W.kitCls
  rw [if_pos (by rw [ex]; rfl)]
  show (if ((PySem.W.clsIn K B).isSome && PySem.W.typeIn K (.ref B) == some (.type "type")) = true then PySem.W.subIn K (.ref D) (.ref B) else none) = some b
  rw [if_pos (by rw [ci, ti]; simp), su]
theorem kit_noT {K : PySem.W.Frag} {C : Addr} {t : String} {cd : PySem.ClassData} (ci : PySem.W.clsIn K C = some cd) (ti : PySem.W.typeIn K (.ref C) = some (.type "type")) (su : PySem.W.subIn K (.type t) (.ref C) = some false) : PySem.W.kitOne K (.type t) (.ref C) = some false := by
  unfold PySem.W.kitOne PySem.W.kitCls
  rw [if_neg (fun h => by have := beq_iff_eq.mp h; cases this)]
  show (if ((PySem.W.clsIn K C).isSome && PySem.W.typeIn K (.ref C) == some (.type "type")) = true then PySem.W.subIn K (.type t) (.ref C) else none) = some false
  rw [if_pos (by rw [ci, ti]; simp), su]
theorem kit_rt {K : PySem.W.Frag} {D : Addr} {b : Bool} {t : String} (km : PySem.W.kitMeta t = true) (su : PySem.W.subIn K (.ref D) (.type t) = some b) : PySem.W.kitOne K (.ref D) (.type t) = some b := by
  unfold PySem.W.kitOne PySem.W.kitCls
  rw [if_neg (fun h => by have := beq_iff_eq.mp h; cases this)]
  show (if PySem.W.kitMeta t = true then PySem.W.subIn K (.ref D) (.type t) else none) = some b
  rw [if_pos km, su]
theorem fund_mk {K : PySem.W.Frag} {x qual : Str} {st : Stmt} {f dT : Addr} {oc : Value} {od an tod : Option Addr} {osl tsl : Array (Option Value)} {kV doc pm cdv ct : Value} {its : Array Value} {n : Nat} {dvs : List V}
    (l : K.lookup f = some ⟨oc, od, .func (PySem.W.fnOf x qual (defArgs st) (defBody st) (defScope st) (.ref dT) kV doc pm an cdv ct), osl⟩) (hcd : PySem.W.codeIn K cdv qual = true) (kp : PySem.W.keepIn K (.ref f) = true)
    (lT : K.lookup dT = some ⟨.type "tuple", tod, .seq its n, tsl⟩) (hv : Vals dvs its.toList) (ne : dvs ≠ []) : FunD K x qual (defArgs st) (defBody st) (defScope st) dvs [] f (PySem.W.fnOf x qual (defArgs st) (defBody st) (defScope st) (.ref dT) kV doc pm an cdv ct) :=
  ⟨⟨oc, od, .ref dT, kV, doc, pm, an, cdv, ct, osl, rfl, l, hcd, .inr ⟨ne, dT, _, its.toList, n, rfl, lT, by simp, hv⟩, .inl rfl⟩, kp⟩
theorem all_mk {l : PySem.W.OpenLaw} {w : World} {K : PySem.W.Frag} {h : Heap} {mg : Str → Option Value} {fa : Addr} (X : K.In h) (G : h.Ns mainGlobals mg) (hfa : mg "law" = some (.ref fa))
    {cR PR f_is_whole f_is_whole_to f_is_name f_are_unlike_names f_number_of f_are_told f_is_mode f_ascending f__law_pen f__law_draw f__law_pick f__law_names f__law_line f__law_shown f__law_even f__law_is_name f__law_is_told f__law_number f__law_due f__law_heard f__law_odd_right f_Mode f_ModeD_initD f_Mode_number p_Mode_number f_ModeD_eqD f_Line f_LineD_initD k_DFL f_Line_form p_Line_form f_Line_owners p_Line_owners f_Line_groups p_Line_groups f_Line_must p_Line_must f_Line_never p_Line_never f_LineD_eqD k_FORMS x_BadKind x_BadInput x_ModesError f_BadKindD_initD f_law : Addr}
    {od_is_whole : Option Addr} {an_is_whole : Option Addr} {sl_is_whole : Array (Option Value)} {oc_is_whole kV_is_whole dc_is_whole pm_is_whole ct_is_whole : Value} {cd_is_whole : Value} {od_is_whole_to : Option Addr} {an_is_whole_to : Option Addr} {sl_is_whole_to : Array (Option Value)} {oc_is_whole_to kV_is_whole_to dc_is_whole_to pm_is_whole_to ct_is_whole_to : Value} {cd_is_whole_to : Value} {od_is_name : Option Addr} {an_is_name : Option Addr} {sl_is_name : Array (Option Value)} {oc_is_name kV_is_name dc_is_name pm_is_name ct_is_name : Value} {cd_is_name : Value} {od_are_unlike_names : Option Addr} {an_are_unlike_names : Option Addr} {sl_are_unlike_names : Array (Option Value)} {oc_are_unlike_names kV_are_unlike_names dc_are_unlike_names pm_are_unlike_names ct_are_unlike_names : Value} {cd_are_unlike_names : Value} {od_number_of : Option Addr} {an_number_of : Option Addr} {sl_number_of : Array (Option Value)} {oc_number_of kV_number_of dc_number_of pm_number_of ct_number_of : Value} {cd_number_of : Value} {od_are_told : Option Addr} {an_are_told : Option Addr} {sl_are_told : Array (Option Value)} {oc_are_told kV_are_told dc_are_told pm_are_told ct_are_told : Value} {cd_are_told : Value} {od_is_mode : Option Addr} {an_is_mode : Option Addr} {sl_is_mode : Array (Option Value)} {oc_is_mode kV_is_mode dc_is_mode pm_is_mode ct_is_mode : Value} {cd_is_mode : Value} {od_ascending : Option Addr} {an_ascending : Option Addr} {sl_ascending : Array (Option Value)} {oc_ascending kV_ascending dc_ascending pm_ascending ct_ascending : Value} {cd_ascending : Value} {od__law_pen : Option Addr} {an__law_pen : Option Addr} {sl__law_pen : Array (Option Value)} {oc__law_pen kV__law_pen dc__law_pen pm__law_pen ct__law_pen : Value} {cd__law_pen : Value} {od__law_draw : Option Addr} {an__law_draw : Option Addr} {sl__law_draw : Array (Option Value)} {oc__law_draw kV__law_draw dc__law_draw pm__law_draw ct__law_draw : Value} {cd__law_draw : Value} {od__law_pick : Option Addr} {an__law_pick : Option Addr} {sl__law_pick : Array (Option Value)} {oc__law_pick kV__law_pick dc__law_pick pm__law_pick ct__law_pick : Value} {cd__law_pick : Value} {od__law_names : Option Addr} {an__law_names : Option Addr} {sl__law_names : Array (Option Value)} {oc__law_names kV__law_names dc__law_names pm__law_names ct__law_names : Value} {cd__law_names : Value} {od__law_line : Option Addr} {an__law_line : Option Addr} {sl__law_line : Array (Option Value)} {oc__law_line kV__law_line dc__law_line pm__law_line ct__law_line : Value} {cd__law_line : Value} {od__law_shown : Option Addr} {an__law_shown : Option Addr} {sl__law_shown : Array (Option Value)} {oc__law_shown kV__law_shown dc__law_shown pm__law_shown ct__law_shown : Value} {cd__law_shown : Value} {od__law_even : Option Addr} {an__law_even : Option Addr} {sl__law_even : Array (Option Value)} {oc__law_even kV__law_even dc__law_even pm__law_even ct__law_even : Value} {cd__law_even : Value} {od__law_is_name : Option Addr} {an__law_is_name : Option Addr} {sl__law_is_name : Array (Option Value)} {oc__law_is_name kV__law_is_name dc__law_is_name pm__law_is_name ct__law_is_name : Value} {cd__law_is_name : Value} {od__law_is_told : Option Addr} {an__law_is_told : Option Addr} {sl__law_is_told : Array (Option Value)} {oc__law_is_told kV__law_is_told dc__law_is_told pm__law_is_told ct__law_is_told : Value} {cd__law_is_told : Value} {od__law_number : Option Addr} {an__law_number : Option Addr} {sl__law_number : Array (Option Value)} {oc__law_number kV__law_number dc__law_number pm__law_number ct__law_number : Value} {cd__law_number : Value} {od__law_due : Option Addr} {an__law_due : Option Addr} {sl__law_due : Array (Option Value)} {oc__law_due kV__law_due dc__law_due pm__law_due ct__law_due : Value} {cd__law_due : Value} {od__law_heard : Option Addr} {an__law_heard : Option Addr} {sl__law_heard : Array (Option Value)} {oc__law_heard kV__law_heard dc__law_heard pm__law_heard ct__law_heard : Value} {cd__law_heard : Value} {od__law_odd_right : Option Addr} {an__law_odd_right : Option Addr} {sl__law_odd_right : Array (Option Value)} {oc__law_odd_right kV__law_odd_right dc__law_odd_right pm__law_odd_right ct__law_odd_right : Value} {od_ModeD_initD : Option Addr} {an_ModeD_initD : Option Addr} {sl_ModeD_initD : Array (Option Value)} {oc_ModeD_initD kV_ModeD_initD dc_ModeD_initD pm_ModeD_initD ct_ModeD_initD : Value} {cd_ModeD_initD : Value} {re_Mode_number : List Value} {od_Mode_number : Option Addr} {an_Mode_number : Option Addr} {sl_Mode_number : Array (Option Value)} {oc_Mode_number kV_Mode_number dc_Mode_number pm_Mode_number ct_Mode_number : Value} {cd_Mode_number : Value} {od_ModeD_eqD : Option Addr} {an_ModeD_eqD : Option Addr} {sl_ModeD_eqD : Array (Option Value)} {oc_ModeD_eqD kV_ModeD_eqD dc_ModeD_eqD pm_ModeD_eqD ct_ModeD_eqD : Value} {cd_ModeD_eqD : Value} {tk_Mode_MOST : Tok} {cd_Mode : PySem.ClassData} {od_LineD_initD : Option Addr} {an_LineD_initD : Option Addr} {sl_LineD_initD : Array (Option Value)} {oc_LineD_initD kV_LineD_initD dc_LineD_initD pm_LineD_initD ct_LineD_initD cd_LineD_initD : Value} {its_DFL : Array Value} {tn_DFL : Nat} {tod_DFL : Option Addr} {tsl_DFL : Array (Option Value)} {re_Line_form : List Value} {od_Line_form : Option Addr} {an_Line_form : Option Addr} {sl_Line_form : Array (Option Value)} {oc_Line_form kV_Line_form dc_Line_form pm_Line_form ct_Line_form : Value} {cd_Line_form : Value} {re_Line_owners : List Value} {od_Line_owners : Option Addr} {an_Line_owners : Option Addr} {sl_Line_owners : Array (Option Value)} {oc_Line_owners kV_Line_owners dc_Line_owners pm_Line_owners ct_Line_owners : Value} {cd_Line_owners : Value} {re_Line_groups : List Value} {od_Line_groups : Option Addr} {an_Line_groups : Option Addr} {sl_Line_groups : Array (Option Value)} {oc_Line_groups kV_Line_groups dc_Line_groups pm_Line_groups ct_Line_groups : Value} {cd_Line_groups : Value} {re_Line_must : List Value} {od_Line_must : Option Addr} {an_Line_must : Option Addr} {sl_Line_must : Array (Option Value)} {oc_Line_must kV_Line_must dc_Line_must pm_Line_must ct_Line_must : Value} {cd_Line_must : Value} {re_Line_never : List Value} {od_Line_never : Option Addr} {an_Line_never : Option Addr} {sl_Line_never : Array (Option Value)} {oc_Line_never kV_Line_never dc_Line_never pm_Line_never ct_Line_never : Value} {cd_Line_never : Value} {od_LineD_eqD : Option Addr} {an_LineD_eqD : Option Addr} {sl_LineD_eqD : Array (Option Value)} {oc_LineD_eqD kV_LineD_eqD dc_LineD_eqD pm_LineD_eqD ct_LineD_eqD : Value} {cd_LineD_eqD : Value} {cd_Line : PySem.ClassData} {its_FORMS : Array Value} {tn_FORMS : Nat} {tod_FORMS : Option Addr} {tsl_FORMS : Array (Option Value)} {tk_LT : Tok} {nmB qB : Str} {NB : Addr} {bsB bmB : List Value} {snB : List Str} {subB : List Value} {abB : Bool} {colB : Option Bool} {ddB : Option Addr} {m0B m1B m2B m3B m5B : Option Value} {od_BadKindD_initD : Option Addr} {an_BadKindD_initD : Option Addr} {sl_BadKindD_initD : Array (Option Value)} {oc_BadKindD_initD kV_BadKindD_initD dc_BadKindD_initD pm_BadKindD_initD ct_BadKindD_initD : Value} {cd_BadKindD_initD : Value} {cdx_ModesError : PySem.ClassData} {cdx_BadInput : PySem.ClassData} {od_law : Option Addr} {an_law : Option Addr} {sl_law : Array (Option Value)} {oc_law kV_law dc_law pm_law ct_law : Value} {cd_law : Value} {od_cR : Option Addr} {vs_cR : Array Value} {sl_cR : Array (Option Value)}
    (z_isinstance : PySem.W.nsIn K mainGlobals "isinstance" = some none)
    (z_int : PySem.W.nsIn K mainGlobals "int" = some none)
    (z_str : PySem.W.nsIn K mainGlobals "str" = some none)
    (z_bool : PySem.W.nsIn K mainGlobals "bool" = some none)
    (z_list : PySem.W.nsIn K mainGlobals "list" = some none)
    (z_len : PySem.W.nsIn K mainGlobals "len" = some none)
    (z_abs : PySem.W.nsIn K mainGlobals "abs" = some none)
    (z_range : PySem.W.nsIn K mainGlobals "range" = some none)
    (z_tuple : PySem.W.nsIn K mainGlobals "tuple" = some none)
    (z_all : PySem.W.nsIn K mainGlobals "all" = some none)
    (z_set : PySem.W.nsIn K mainGlobals "set" = some none)
    (z_sorted : PySem.W.nsIn K mainGlobals "sorted" = some none)
    (z_repr : PySem.W.nsIn K mainGlobals "repr" = some none)
    (a_is_whole : PySem.W.nsIn K mainGlobals "is_whole" = some (some (.ref f_is_whole)))
    (l_is_whole : K.lookup f_is_whole = some ⟨oc_is_whole, od_is_whole, .func (PySem.W.fnOf "is_whole" "is_whole" (defArgs s_is_whole) (defBody s_is_whole) (defScope s_is_whole) .none kV_is_whole dc_is_whole pm_is_whole an_is_whole cd_is_whole ct_is_whole), sl_is_whole⟩)
    (co_is_whole : PySem.W.codeIn K cd_is_whole "is_whole" = true)
    (kp_is_whole : PySem.W.keepIn K (.ref f_is_whole) = true)
    (a_is_whole_to : PySem.W.nsIn K mainGlobals "is_whole_to" = some (some (.ref f_is_whole_to)))
    (l_is_whole_to : K.lookup f_is_whole_to = some ⟨oc_is_whole_to, od_is_whole_to, .func (PySem.W.fnOf "is_whole_to" "is_whole_to" (defArgs s_is_whole_to) (defBody s_is_whole_to) (defScope s_is_whole_to) .none kV_is_whole_to dc_is_whole_to pm_is_whole_to an_is_whole_to cd_is_whole_to ct_is_whole_to), sl_is_whole_to⟩)
    (co_is_whole_to : PySem.W.codeIn K cd_is_whole_to "is_whole_to" = true)
    (kp_is_whole_to : PySem.W.keepIn K (.ref f_is_whole_to) = true)
    (a_is_name : PySem.W.nsIn K mainGlobals "is_name" = some (some (.ref f_is_name)))
    (l_is_name : K.lookup f_is_name = some ⟨oc_is_name, od_is_name, .func (PySem.W.fnOf "is_name" "is_name" (defArgs s_is_name) (defBody s_is_name) (defScope s_is_name) .none kV_is_name dc_is_name pm_is_name an_is_name cd_is_name ct_is_name), sl_is_name⟩)
    (co_is_name : PySem.W.codeIn K cd_is_name "is_name" = true)
    (kp_is_name : PySem.W.keepIn K (.ref f_is_name) = true)
    (a_are_unlike_names : PySem.W.nsIn K mainGlobals "are_unlike_names" = some (some (.ref f_are_unlike_names)))
    (l_are_unlike_names : K.lookup f_are_unlike_names = some ⟨oc_are_unlike_names, od_are_unlike_names, .func (PySem.W.fnOf "are_unlike_names" "are_unlike_names" (defArgs s_are_unlike_names) (defBody s_are_unlike_names) (defScope s_are_unlike_names) .none kV_are_unlike_names dc_are_unlike_names pm_are_unlike_names an_are_unlike_names cd_are_unlike_names ct_are_unlike_names), sl_are_unlike_names⟩)
    (co_are_unlike_names : PySem.W.codeIn K cd_are_unlike_names "are_unlike_names" = true)
    (kp_are_unlike_names : PySem.W.keepIn K (.ref f_are_unlike_names) = true)
    (a_number_of : PySem.W.nsIn K mainGlobals "number_of" = some (some (.ref f_number_of)))
    (l_number_of : K.lookup f_number_of = some ⟨oc_number_of, od_number_of, .func (PySem.W.fnOf "number_of" "number_of" (defArgs s_number_of) (defBody s_number_of) (defScope s_number_of) .none kV_number_of dc_number_of pm_number_of an_number_of cd_number_of ct_number_of), sl_number_of⟩)
    (co_number_of : PySem.W.codeIn K cd_number_of "number_of" = true)
    (kp_number_of : PySem.W.keepIn K (.ref f_number_of) = true)
    (a_are_told : PySem.W.nsIn K mainGlobals "are_told" = some (some (.ref f_are_told)))
    (l_are_told : K.lookup f_are_told = some ⟨oc_are_told, od_are_told, .func (PySem.W.fnOf "are_told" "are_told" (defArgs s_are_told) (defBody s_are_told) (defScope s_are_told) .none kV_are_told dc_are_told pm_are_told an_are_told cd_are_told ct_are_told), sl_are_told⟩)
    (co_are_told : PySem.W.codeIn K cd_are_told "are_told" = true)
    (kp_are_told : PySem.W.keepIn K (.ref f_are_told) = true)
    (a_is_mode : PySem.W.nsIn K mainGlobals "is_mode" = some (some (.ref f_is_mode)))
    (l_is_mode : K.lookup f_is_mode = some ⟨oc_is_mode, od_is_mode, .func (PySem.W.fnOf "is_mode" "is_mode" (defArgs s_is_mode) (defBody s_is_mode) (defScope s_is_mode) .none kV_is_mode dc_is_mode pm_is_mode an_is_mode cd_is_mode ct_is_mode), sl_is_mode⟩)
    (co_is_mode : PySem.W.codeIn K cd_is_mode "is_mode" = true)
    (kp_is_mode : PySem.W.keepIn K (.ref f_is_mode) = true)
    (a_ascending : PySem.W.nsIn K mainGlobals "ascending" = some (some (.ref f_ascending)))
    (l_ascending : K.lookup f_ascending = some ⟨oc_ascending, od_ascending, .func (PySem.W.fnOf "ascending" "ascending" (defArgs s_ascending) (defBody s_ascending) (defScope s_ascending) .none kV_ascending dc_ascending pm_ascending an_ascending cd_ascending ct_ascending), sl_ascending⟩)
    (co_ascending : PySem.W.codeIn K cd_ascending "ascending" = true)
    (kp_ascending : PySem.W.keepIn K (.ref f_ascending) = true)
    (a__law_pen : PySem.W.nsIn K mainGlobals "_law_pen" = some (some (.ref f__law_pen)))
    (l__law_pen : K.lookup f__law_pen = some ⟨oc__law_pen, od__law_pen, .func (PySem.W.fnOf "_law_pen" "_law_pen" (defArgs s__law_pen) (defBody s__law_pen) (defScope s__law_pen) .none kV__law_pen dc__law_pen pm__law_pen an__law_pen cd__law_pen ct__law_pen), sl__law_pen⟩)
    (co__law_pen : PySem.W.codeIn K cd__law_pen "_law_pen" = true)
    (kp__law_pen : PySem.W.keepIn K (.ref f__law_pen) = true)
    (a__law_draw : PySem.W.nsIn K mainGlobals "_law_draw" = some (some (.ref f__law_draw)))
    (l__law_draw : K.lookup f__law_draw = some ⟨oc__law_draw, od__law_draw, .func (PySem.W.fnOf "_law_draw" "_law_draw" (defArgs s__law_draw) (defBody s__law_draw) (defScope s__law_draw) .none kV__law_draw dc__law_draw pm__law_draw an__law_draw cd__law_draw ct__law_draw), sl__law_draw⟩)
    (co__law_draw : PySem.W.codeIn K cd__law_draw "_law_draw" = true)
    (kp__law_draw : PySem.W.keepIn K (.ref f__law_draw) = true)
    (a__law_pick : PySem.W.nsIn K mainGlobals "_law_pick" = some (some (.ref f__law_pick)))
    (l__law_pick : K.lookup f__law_pick = some ⟨oc__law_pick, od__law_pick, .func (PySem.W.fnOf "_law_pick" "_law_pick" (defArgs s__law_pick) (defBody s__law_pick) (defScope s__law_pick) .none kV__law_pick dc__law_pick pm__law_pick an__law_pick cd__law_pick ct__law_pick), sl__law_pick⟩)
    (co__law_pick : PySem.W.codeIn K cd__law_pick "_law_pick" = true)
    (kp__law_pick : PySem.W.keepIn K (.ref f__law_pick) = true)
    (a__law_names : PySem.W.nsIn K mainGlobals "_law_names" = some (some (.ref f__law_names)))
    (l__law_names : K.lookup f__law_names = some ⟨oc__law_names, od__law_names, .func (PySem.W.fnOf "_law_names" "_law_names" (defArgs s__law_names) (defBody s__law_names) (defScope s__law_names) .none kV__law_names dc__law_names pm__law_names an__law_names cd__law_names ct__law_names), sl__law_names⟩)
    (co__law_names : PySem.W.codeIn K cd__law_names "_law_names" = true)
    (kp__law_names : PySem.W.keepIn K (.ref f__law_names) = true)
    (a__law_line : PySem.W.nsIn K mainGlobals "_law_line" = some (some (.ref f__law_line)))
    (l__law_line : K.lookup f__law_line = some ⟨oc__law_line, od__law_line, .func (PySem.W.fnOf "_law_line" "_law_line" (defArgs s__law_line) (defBody s__law_line) (defScope s__law_line) .none kV__law_line dc__law_line pm__law_line an__law_line cd__law_line ct__law_line), sl__law_line⟩)
    (co__law_line : PySem.W.codeIn K cd__law_line "_law_line" = true)
    (kp__law_line : PySem.W.keepIn K (.ref f__law_line) = true)
    (a__law_shown : PySem.W.nsIn K mainGlobals "_law_shown" = some (some (.ref f__law_shown)))
    (l__law_shown : K.lookup f__law_shown = some ⟨oc__law_shown, od__law_shown, .func (PySem.W.fnOf "_law_shown" "_law_shown" (defArgs s__law_shown) (defBody s__law_shown) (defScope s__law_shown) .none kV__law_shown dc__law_shown pm__law_shown an__law_shown cd__law_shown ct__law_shown), sl__law_shown⟩)
    (co__law_shown : PySem.W.codeIn K cd__law_shown "_law_shown" = true)
    (kp__law_shown : PySem.W.keepIn K (.ref f__law_shown) = true)
    (a__law_even : PySem.W.nsIn K mainGlobals "_law_even" = some (some (.ref f__law_even)))
    (l__law_even : K.lookup f__law_even = some ⟨oc__law_even, od__law_even, .func (PySem.W.fnOf "_law_even" "_law_even" (defArgs s__law_even) (defBody s__law_even) (defScope s__law_even) .none kV__law_even dc__law_even pm__law_even an__law_even cd__law_even ct__law_even), sl__law_even⟩)
    (co__law_even : PySem.W.codeIn K cd__law_even "_law_even" = true)
    (kp__law_even : PySem.W.keepIn K (.ref f__law_even) = true)
    (a__law_is_name : PySem.W.nsIn K mainGlobals "_law_is_name" = some (some (.ref f__law_is_name)))
    (l__law_is_name : K.lookup f__law_is_name = some ⟨oc__law_is_name, od__law_is_name, .func (PySem.W.fnOf "_law_is_name" "_law_is_name" (defArgs s__law_is_name) (defBody s__law_is_name) (defScope s__law_is_name) .none kV__law_is_name dc__law_is_name pm__law_is_name an__law_is_name cd__law_is_name ct__law_is_name), sl__law_is_name⟩)
    (co__law_is_name : PySem.W.codeIn K cd__law_is_name "_law_is_name" = true)
    (kp__law_is_name : PySem.W.keepIn K (.ref f__law_is_name) = true)
    (a__law_is_told : PySem.W.nsIn K mainGlobals "_law_is_told" = some (some (.ref f__law_is_told)))
    (l__law_is_told : K.lookup f__law_is_told = some ⟨oc__law_is_told, od__law_is_told, .func (PySem.W.fnOf "_law_is_told" "_law_is_told" (defArgs s__law_is_told) (defBody s__law_is_told) (defScope s__law_is_told) .none kV__law_is_told dc__law_is_told pm__law_is_told an__law_is_told cd__law_is_told ct__law_is_told), sl__law_is_told⟩)
    (co__law_is_told : PySem.W.codeIn K cd__law_is_told "_law_is_told" = true)
    (kp__law_is_told : PySem.W.keepIn K (.ref f__law_is_told) = true)
    (a__law_number : PySem.W.nsIn K mainGlobals "_law_number" = some (some (.ref f__law_number)))
    (l__law_number : K.lookup f__law_number = some ⟨oc__law_number, od__law_number, .func (PySem.W.fnOf "_law_number" "_law_number" (defArgs s__law_number) (defBody s__law_number) (defScope s__law_number) .none kV__law_number dc__law_number pm__law_number an__law_number cd__law_number ct__law_number), sl__law_number⟩)
    (co__law_number : PySem.W.codeIn K cd__law_number "_law_number" = true)
    (kp__law_number : PySem.W.keepIn K (.ref f__law_number) = true)
    (a__law_due : PySem.W.nsIn K mainGlobals "_law_due" = some (some (.ref f__law_due)))
    (l__law_due : K.lookup f__law_due = some ⟨oc__law_due, od__law_due, .func (PySem.W.fnOf "_law_due" "_law_due" (defArgs s__law_due) (defBody s__law_due) (defScope s__law_due) .none kV__law_due dc__law_due pm__law_due an__law_due cd__law_due ct__law_due), sl__law_due⟩)
    (co__law_due : PySem.W.codeIn K cd__law_due "_law_due" = true)
    (kp__law_due : PySem.W.keepIn K (.ref f__law_due) = true)
    (a__law_heard : PySem.W.nsIn K mainGlobals "_law_heard" = some (some (.ref f__law_heard)))
    (l__law_heard : K.lookup f__law_heard = some ⟨oc__law_heard, od__law_heard, .func (PySem.W.fnOf "_law_heard" "_law_heard" (defArgs s__law_heard) (defBody s__law_heard) (defScope s__law_heard) .none kV__law_heard dc__law_heard pm__law_heard an__law_heard cd__law_heard ct__law_heard), sl__law_heard⟩)
    (co__law_heard : PySem.W.codeIn K cd__law_heard "_law_heard" = true)
    (kp__law_heard : PySem.W.keepIn K (.ref f__law_heard) = true)
    (a__law_odd_right : PySem.W.nsIn K mainGlobals "_law_odd_right" = some (some (.ref f__law_odd_right)))
    (l__law_odd_right : K.lookup f__law_odd_right = some ⟨oc__law_odd_right, od__law_odd_right, .func (PySem.W.fnOf "_law_odd_right" "_law_odd_right" (defArgs s__law_odd_right) (defBody s__law_odd_right) (defScope s__law_odd_right) .none kV__law_odd_right dc__law_odd_right pm__law_odd_right an__law_odd_right (.ref cR) ct__law_odd_right), sl__law_odd_right⟩)
    (co__law_odd_right : PySem.W.codeIn K (.ref cR) "_law_odd_right" = true)
    (kp__law_odd_right : PySem.W.keepIn K (.ref f__law_odd_right) = true)
    (a_Mode : PySem.W.nsIn K mainGlobals "Mode" = some (some (.ref f_Mode)))
    (pg_Mode : PySem.W.plainGet K f_Mode Str.empty = true)
    (hd_Mode : PySem.W.hasDictIn K f_Mode = true)
    (po_Mode : PySem.W.plainOver K f_Mode = true)
    (sa_Mode : PySem.W.findIn K (.ref f_Mode) "__setattr__" = some (some (.builtin "object.__setattr__")))
    (n_number_Mode : PySem.W.findIn K (.ref f_Mode) "_number" = some none)
    (at_ModeD_initD : PySem.W.findIn K (.ref f_Mode) "__init__" = some (some (.ref f_ModeD_initD)))
    (fi_ModeD_initD : PySem.W.isFn K (.ref f_ModeD_initD) = true)
    (mk_Mode : PySem.W.makesIn K f_Mode = true)
    (kc_Mode : PySem.W.keepIn K (.ref f_Mode) = true)
    (l_ModeD_initD : K.lookup f_ModeD_initD = some ⟨oc_ModeD_initD, od_ModeD_initD, .func (PySem.W.fnOf "__init__" "Mode.__init__" (defArgs s_ModeD_initD) (defBody s_ModeD_initD) (defScope s_ModeD_initD) .none kV_ModeD_initD dc_ModeD_initD pm_ModeD_initD an_ModeD_initD cd_ModeD_initD ct_ModeD_initD), sl_ModeD_initD⟩)
    (co_ModeD_initD : PySem.W.codeIn K cd_ModeD_initD "Mode.__init__" = true)
    (kp_ModeD_initD : PySem.W.keepIn K (.ref f_ModeD_initD) = true)
    (at_Mode_number : PySem.W.findIn K (.ref f_Mode) "number" = some (some (.ref p_Mode_number)))
    (ge_Mode_number : PySem.W.specialIn K (.ref p_Mode_number) "__get__" = some (some (.builtin "property.__get__")))
    (ta_Mode_number : PySem.W.takesIn K (.ref p_Mode_number) = some true)
    (rc_Mode_number : PySem.W.recIn K p_Mode_number "property" = some (.ref f_Mode_number :: re_Mode_number))
    (l_Mode_number : K.lookup f_Mode_number = some ⟨oc_Mode_number, od_Mode_number, .func (PySem.W.fnOf "number" "Mode.number" (defArgs s_Mode_number) (defBody s_Mode_number) (defScope s_Mode_number) .none kV_Mode_number dc_Mode_number pm_Mode_number an_Mode_number cd_Mode_number ct_Mode_number), sl_Mode_number⟩)
    (co_Mode_number : PySem.W.codeIn K cd_Mode_number "Mode.number" = true)
    (kp_Mode_number : PySem.W.keepIn K (.ref f_Mode_number) = true)
    (at_ModeD_eqD : PySem.W.findIn K (.ref f_Mode) "__eq__" = some (some (.ref f_ModeD_eqD)))
    (fi_ModeD_eqD : PySem.W.isFn K (.ref f_ModeD_eqD) = true)
    (l_ModeD_eqD : K.lookup f_ModeD_eqD = some ⟨oc_ModeD_eqD, od_ModeD_eqD, .func (PySem.W.fnOf "__eq__" "Mode.__eq__" (defArgs s_ModeD_eqD) (defBody s_ModeD_eqD) (defScope s_ModeD_eqD) .none kV_ModeD_eqD dc_ModeD_eqD pm_ModeD_eqD an_ModeD_eqD cd_ModeD_eqD ct_ModeD_eqD), sl_ModeD_eqD⟩)
    (co_ModeD_eqD : PySem.W.codeIn K cd_ModeD_eqD "Mode.__eq__" = true)
    (kp_ModeD_eqD : PySem.W.keepIn K (.ref f_ModeD_eqD) = true)
    (rd_Mode : PySem.W.readsIn K f_Mode (.type "type") = true)
    (ga_Mode : PySem.W.specialIn K (.ref f_Mode) "__getattribute__" = some (some (.builtin "type.__getattribute__")))
    (cv_Mode_MOST : PySem.W.findCls K (.ref f_Mode) (.type "type") "MOST" = some (.val (.int 511 tk_Mode_MOST)))
    (ia_Mode : PySem.W.findIn K (.ref f_Mode) "__class__" = some (some (.builtin "object.__class__")))
    (im_Mode : PySem.W.mroIn K f_Mode (.type "object") = some true)
    (ci_Mode : PySem.W.clsIn K f_Mode = some cd_Mode)
    (ti_Mode : PySem.W.typeIn K (.ref f_Mode) = some (.type "type"))
    (sn_Mode_str : PySem.W.subIn K (.type "str") (.ref f_Mode) = some false)
    (sn_Mode_tuple : PySem.W.subIn K (.type "tuple") (.ref f_Mode) = some false)
    (sn_Mode_int : PySem.W.subIn K (.type "int") (.ref f_Mode) = some false)
    (sn_Mode_NoneType : PySem.W.subIn K (.type "NoneType") (.ref f_Mode) = some false)
    (sn_Mode_bool : PySem.W.subIn K (.type "bool") (.ref f_Mode) = some false)
    (sn_Mode_list : PySem.W.subIn K (.type "list") (.ref f_Mode) = some false)
    (sn_Mode_dict : PySem.W.subIn K (.type "dict") (.ref f_Mode) = some false)
    (sr_Mode_int : PySem.W.subIn K (.ref f_Mode) (.type "int") = some false)
    (sr_Mode_bool : PySem.W.subIn K (.ref f_Mode) (.type "bool") = some false)
    (sr_Mode_list : PySem.W.subIn K (.ref f_Mode) (.type "list") = some false)
    (sr_Mode_tuple : PySem.W.subIn K (.ref f_Mode) (.type "tuple") = some false)
    (sr_Mode_str : PySem.W.subIn K (.ref f_Mode) (.type "str") = some false)
    (en_Mode : PySem.W.findIn K (.ref f_Mode) "__ne__" = some (some (.builtin "object.__ne__")))
    (nf_Mode : PySem.W.notFirst K f_Mode (.ref f_Mode) = true)
    (a_Line : PySem.W.nsIn K mainGlobals "Line" = some (some (.ref f_Line)))
    (pg_Line : PySem.W.plainGet K f_Line Str.empty = true)
    (hd_Line : PySem.W.hasDictIn K f_Line = true)
    (po_Line : PySem.W.plainOver K f_Line = true)
    (sa_Line : PySem.W.findIn K (.ref f_Line) "__setattr__" = some (some (.builtin "object.__setattr__")))
    (n_form_Line : PySem.W.findIn K (.ref f_Line) "_form" = some none)
    (n_owners_Line : PySem.W.findIn K (.ref f_Line) "_owners" = some none)
    (n_groups_Line : PySem.W.findIn K (.ref f_Line) "_groups" = some none)
    (n_must_Line : PySem.W.findIn K (.ref f_Line) "_must" = some none)
    (n_never_Line : PySem.W.findIn K (.ref f_Line) "_never" = some none)
    (at_LineD_initD : PySem.W.findIn K (.ref f_Line) "__init__" = some (some (.ref f_LineD_initD)))
    (fi_LineD_initD : PySem.W.isFn K (.ref f_LineD_initD) = true)
    (mk_Line : PySem.W.makesIn K f_Line = true)
    (kc_Line : PySem.W.keepIn K (.ref f_Line) = true)
    (l_LineD_initD : K.lookup f_LineD_initD = some ⟨oc_LineD_initD, od_LineD_initD, .func (PySem.W.fnOf "__init__" "Line.__init__" (defArgs s_LineD_initD) (defBody s_LineD_initD) (defScope s_LineD_initD) (.ref k_DFL) kV_LineD_initD dc_LineD_initD pm_LineD_initD an_LineD_initD cd_LineD_initD ct_LineD_initD), sl_LineD_initD⟩)
    (co_LineD_initD : PySem.W.codeIn K cd_LineD_initD "Line.__init__" = true)
    (kp_LineD_initD : PySem.W.keepIn K (.ref f_LineD_initD) = true)
    (lt_DFL : K.lookup k_DFL = some ⟨.type "tuple", tod_DFL, .seq its_DFL tn_DFL, tsl_DFL⟩)
    (vl_DFL : Vals [.non, .non, .int 0, .int 0] its_DFL.toList)
    (at_Line_form : PySem.W.findIn K (.ref f_Line) "form" = some (some (.ref p_Line_form)))
    (ge_Line_form : PySem.W.specialIn K (.ref p_Line_form) "__get__" = some (some (.builtin "property.__get__")))
    (ta_Line_form : PySem.W.takesIn K (.ref p_Line_form) = some true)
    (rc_Line_form : PySem.W.recIn K p_Line_form "property" = some (.ref f_Line_form :: re_Line_form))
    (l_Line_form : K.lookup f_Line_form = some ⟨oc_Line_form, od_Line_form, .func (PySem.W.fnOf "form" "Line.form" (defArgs s_Line_form) (defBody s_Line_form) (defScope s_Line_form) .none kV_Line_form dc_Line_form pm_Line_form an_Line_form cd_Line_form ct_Line_form), sl_Line_form⟩)
    (co_Line_form : PySem.W.codeIn K cd_Line_form "Line.form" = true)
    (kp_Line_form : PySem.W.keepIn K (.ref f_Line_form) = true)
    (at_Line_owners : PySem.W.findIn K (.ref f_Line) "owners" = some (some (.ref p_Line_owners)))
    (ge_Line_owners : PySem.W.specialIn K (.ref p_Line_owners) "__get__" = some (some (.builtin "property.__get__")))
    (ta_Line_owners : PySem.W.takesIn K (.ref p_Line_owners) = some true)
    (rc_Line_owners : PySem.W.recIn K p_Line_owners "property" = some (.ref f_Line_owners :: re_Line_owners))
    (l_Line_owners : K.lookup f_Line_owners = some ⟨oc_Line_owners, od_Line_owners, .func (PySem.W.fnOf "owners" "Line.owners" (defArgs s_Line_owners) (defBody s_Line_owners) (defScope s_Line_owners) .none kV_Line_owners dc_Line_owners pm_Line_owners an_Line_owners cd_Line_owners ct_Line_owners), sl_Line_owners⟩)
    (co_Line_owners : PySem.W.codeIn K cd_Line_owners "Line.owners" = true)
    (kp_Line_owners : PySem.W.keepIn K (.ref f_Line_owners) = true)
    (at_Line_groups : PySem.W.findIn K (.ref f_Line) "groups" = some (some (.ref p_Line_groups)))
    (ge_Line_groups : PySem.W.specialIn K (.ref p_Line_groups) "__get__" = some (some (.builtin "property.__get__")))
    (ta_Line_groups : PySem.W.takesIn K (.ref p_Line_groups) = some true)
    (rc_Line_groups : PySem.W.recIn K p_Line_groups "property" = some (.ref f_Line_groups :: re_Line_groups))
    (l_Line_groups : K.lookup f_Line_groups = some ⟨oc_Line_groups, od_Line_groups, .func (PySem.W.fnOf "groups" "Line.groups" (defArgs s_Line_groups) (defBody s_Line_groups) (defScope s_Line_groups) .none kV_Line_groups dc_Line_groups pm_Line_groups an_Line_groups cd_Line_groups ct_Line_groups), sl_Line_groups⟩)
    (co_Line_groups : PySem.W.codeIn K cd_Line_groups "Line.groups" = true)
    (kp_Line_groups : PySem.W.keepIn K (.ref f_Line_groups) = true)
    (at_Line_must : PySem.W.findIn K (.ref f_Line) "must" = some (some (.ref p_Line_must)))
    (ge_Line_must : PySem.W.specialIn K (.ref p_Line_must) "__get__" = some (some (.builtin "property.__get__")))
    (ta_Line_must : PySem.W.takesIn K (.ref p_Line_must) = some true)
    (rc_Line_must : PySem.W.recIn K p_Line_must "property" = some (.ref f_Line_must :: re_Line_must))
    (l_Line_must : K.lookup f_Line_must = some ⟨oc_Line_must, od_Line_must, .func (PySem.W.fnOf "must" "Line.must" (defArgs s_Line_must) (defBody s_Line_must) (defScope s_Line_must) .none kV_Line_must dc_Line_must pm_Line_must an_Line_must cd_Line_must ct_Line_must), sl_Line_must⟩)
    (co_Line_must : PySem.W.codeIn K cd_Line_must "Line.must" = true)
    (kp_Line_must : PySem.W.keepIn K (.ref f_Line_must) = true)
    (at_Line_never : PySem.W.findIn K (.ref f_Line) "never" = some (some (.ref p_Line_never)))
    (ge_Line_never : PySem.W.specialIn K (.ref p_Line_never) "__get__" = some (some (.builtin "property.__get__")))
    (ta_Line_never : PySem.W.takesIn K (.ref p_Line_never) = some true)
    (rc_Line_never : PySem.W.recIn K p_Line_never "property" = some (.ref f_Line_never :: re_Line_never))
    (l_Line_never : K.lookup f_Line_never = some ⟨oc_Line_never, od_Line_never, .func (PySem.W.fnOf "never" "Line.never" (defArgs s_Line_never) (defBody s_Line_never) (defScope s_Line_never) .none kV_Line_never dc_Line_never pm_Line_never an_Line_never cd_Line_never ct_Line_never), sl_Line_never⟩)
    (co_Line_never : PySem.W.codeIn K cd_Line_never "Line.never" = true)
    (kp_Line_never : PySem.W.keepIn K (.ref f_Line_never) = true)
    (at_LineD_eqD : PySem.W.findIn K (.ref f_Line) "__eq__" = some (some (.ref f_LineD_eqD)))
    (fi_LineD_eqD : PySem.W.isFn K (.ref f_LineD_eqD) = true)
    (l_LineD_eqD : K.lookup f_LineD_eqD = some ⟨oc_LineD_eqD, od_LineD_eqD, .func (PySem.W.fnOf "__eq__" "Line.__eq__" (defArgs s_LineD_eqD) (defBody s_LineD_eqD) (defScope s_LineD_eqD) .none kV_LineD_eqD dc_LineD_eqD pm_LineD_eqD an_LineD_eqD cd_LineD_eqD ct_LineD_eqD), sl_LineD_eqD⟩)
    (co_LineD_eqD : PySem.W.codeIn K cd_LineD_eqD "Line.__eq__" = true)
    (kp_LineD_eqD : PySem.W.keepIn K (.ref f_LineD_eqD) = true)
    (ia_Line : PySem.W.findIn K (.ref f_Line) "__class__" = some (some (.builtin "object.__class__")))
    (im_Line : PySem.W.mroIn K f_Line (.type "object") = some true)
    (ci_Line : PySem.W.clsIn K f_Line = some cd_Line)
    (ti_Line : PySem.W.typeIn K (.ref f_Line) = some (.type "type"))
    (sn_Line_str : PySem.W.subIn K (.type "str") (.ref f_Line) = some false)
    (sn_Line_tuple : PySem.W.subIn K (.type "tuple") (.ref f_Line) = some false)
    (sn_Line_int : PySem.W.subIn K (.type "int") (.ref f_Line) = some false)
    (sn_Line_NoneType : PySem.W.subIn K (.type "NoneType") (.ref f_Line) = some false)
    (sn_Line_bool : PySem.W.subIn K (.type "bool") (.ref f_Line) = some false)
    (sn_Line_list : PySem.W.subIn K (.type "list") (.ref f_Line) = some false)
    (sn_Line_dict : PySem.W.subIn K (.type "dict") (.ref f_Line) = some false)
    (sr_Line_int : PySem.W.subIn K (.ref f_Line) (.type "int") = some false)
    (sr_Line_bool : PySem.W.subIn K (.ref f_Line) (.type "bool") = some false)
    (sr_Line_list : PySem.W.subIn K (.ref f_Line) (.type "list") = some false)
    (sr_Line_tuple : PySem.W.subIn K (.ref f_Line) (.type "tuple") = some false)
    (sr_Line_str : PySem.W.subIn K (.ref f_Line) (.type "str") = some false)
    (en_Line : PySem.W.findIn K (.ref f_Line) "__ne__" = some (some (.builtin "object.__ne__")))
    (nf_Line : PySem.W.notFirst K f_Line (.ref f_Line) = true)
    (nfLt : PySem.W.notFirst K f_Line (.type "tuple") = true)
    (in0 : PySem.W.specialIn K (.builtin "object.__class__") "__get__" = some (some (.builtin "getset_descriptor.__get__")))
    (it0 : PySem.W.takesIn K (.builtin "object.__class__") = some true)
    (a_FORMS : PySem.W.nsIn K mainGlobals "FORMS" = some (some (.ref k_FORMS)))
    (lt_FORMS : K.lookup k_FORMS = some ⟨.type "tuple", tod_FORMS, .seq its_FORMS tn_FORMS, tsl_FORMS⟩)
    (sz_FORMS : its_FORMS.size ≤ sizeLine)
    (vl_FORMS : Vals [.str "file", .str "folder"] its_FORMS.toList)
    (a_LETTERS : PySem.W.nsIn K mainGlobals "LETTERS" = some (some (.str "abcdefghijklmnopqrstuvwxyz" tk_LT)))
    (a_BadKind : PySem.W.nsIn K mainGlobals "BadKind" = some (some (.ref x_BadKind)))
    (a_BadInput : PySem.W.nsIn K mainGlobals "BadInput" = some (some (.ref x_BadInput)))
    (a_ModesError : PySem.W.nsIn K mainGlobals "ModesError" = some (some (.ref x_ModesError)))
    (xl_B : K.lookup x_BadKind = some (excClassObj nmB qB x_BadKind NB bsB bmB true snB subB abB colB ddB m0B m1B m2B m3B m5B "ValueError.__new__"))
    (rf_B : PySem.HandSPX.refsVE bmB = true)
    (sa_B : PySem.W.findIn K (.ref x_BadKind) "__setattr__" = some (some (.builtin "object.__setattr__")))
    (ex_B : PySem.W.subIn K (.ref x_BadKind) (.type "BaseException") = some true)
    (ty_B : PySem.W.typeIn K (.ref x_BadKind) = some (.type "type"))
    (kp_B : PySem.W.keepIn K (.ref x_BadKind) = true)
    (ga_B : PySem.W.findIn K (.ref x_BadKind) "__getattribute__" = some (some (.builtin "BaseException.__getattribute__")))
    (gg_B : PySem.W.findIn K (.ref x_BadKind) "__getattr__" = some none)
    (hd_B : PySem.W.hasDictIn K x_BadKind = true)
    (cc_B : PySem.W.findIn K (.ref x_BadKind) "__class__" = some (some (.builtin "object.__class__")))
    (mr_B : PySem.W.mroIn K x_BadKind (.type "object") = some true)
    (np_B : PySem.W.findIn K (.ref x_BadKind) "at" = some none)
    (in_B : PySem.W.findIn K (.ref x_BadKind) "__init__" = some (some (.ref f_BadKindD_initD)))
    (ti_B : PySem.W.typeIn K (.ref f_BadKindD_initD) = some (.type "function"))
    (l_BadKindD_initD : K.lookup f_BadKindD_initD = some ⟨oc_BadKindD_initD, od_BadKindD_initD, .func (PySem.W.fnOf "__init__" "BadKind.__init__" (defArgs s_BadKindD_initD) (defBody s_BadKindD_initD) (defScope s_BadKindD_initD) .none kV_BadKindD_initD dc_BadKindD_initD pm_BadKindD_initD an_BadKindD_initD cd_BadKindD_initD ct_BadKindD_initD), sl_BadKindD_initD⟩)
    (co_BadKindD_initD : PySem.W.codeIn K cd_BadKindD_initD "BadKind.__init__" = true)
    (kp_BadKindD_initD : PySem.W.keepIn K (.ref f_BadKindD_initD) = true)
    (cix_ModesError : PySem.W.clsIn K x_ModesError = some cdx_ModesError)
    (tix_ModesError : PySem.W.typeIn K (.ref x_ModesError) = some (.type "type"))
    (cix_BadInput : PySem.W.clsIn K x_BadInput = some cdx_BadInput)
    (tix_BadInput : PySem.W.typeIn K (.ref x_BadInput) = some (.type "type"))
    (suBI : PySem.W.subIn K (.ref x_BadKind) (.ref x_BadInput) = some true)
    (neBI : x_BadKind ≠ x_BadInput)
    (bex_ME : PySem.W.subIn K (.ref x_ModesError) (.type "BaseException") = some true)
    (sux_ME : PySem.W.subIn K (.ref x_BadKind) (.ref x_ModesError) = some true)
    (a_law : PySem.W.nsIn K mainGlobals "law" = some (some (.ref f_law)))
    (l_law : K.lookup f_law = some ⟨oc_law, od_law, .func (PySem.W.fnOf "law" "law" (defArgs s_law) (defBody s_law) (defScope s_law) .none kV_law dc_law pm_law an_law cd_law ct_law), sl_law⟩)
    (co_law : PySem.W.codeIn K cd_law "law" = true)
    (kp_law : PySem.W.keepIn K (.ref f_law) = true)
    (lc_PR : K.lookup cR = some ⟨.type "code", od_cR, .fields vs_cR, sl_cR⟩)
    (v11_PR : vs_cR[11]? = some (.ref PR))
    (ch_PR : PySem.W.codeHdIn K cR PR = true)
    (kl_PR : K.lookup PR = none)
    (tb_PR : h.get? PR = some { cls := .none, data := .fields #[] })
    : KD.LawTop l w K "_law_script" mg fa h := by
  have e := hfa.symm.trans (PySem.W.mg_of X G a_law)
  obtain rfl : f_law = fa := by cases e; rfl
  have T : Txt w K mg { cR := cR, PR := PR, f_is_whole := f_is_whole, d_is_whole := PySem.W.fnOf "is_whole" "is_whole" (defArgs s_is_whole) (defBody s_is_whole) (defScope s_is_whole) .none kV_is_whole dc_is_whole pm_is_whole an_is_whole cd_is_whole ct_is_whole, f_is_whole_to := f_is_whole_to, d_is_whole_to := PySem.W.fnOf "is_whole_to" "is_whole_to" (defArgs s_is_whole_to) (defBody s_is_whole_to) (defScope s_is_whole_to) .none kV_is_whole_to dc_is_whole_to pm_is_whole_to an_is_whole_to cd_is_whole_to ct_is_whole_to, f_is_name := f_is_name, d_is_name := PySem.W.fnOf "is_name" "is_name" (defArgs s_is_name) (defBody s_is_name) (defScope s_is_name) .none kV_is_name dc_is_name pm_is_name an_is_name cd_is_name ct_is_name, f_are_unlike_names := f_are_unlike_names, d_are_unlike_names := PySem.W.fnOf "are_unlike_names" "are_unlike_names" (defArgs s_are_unlike_names) (defBody s_are_unlike_names) (defScope s_are_unlike_names) .none kV_are_unlike_names dc_are_unlike_names pm_are_unlike_names an_are_unlike_names cd_are_unlike_names ct_are_unlike_names, f_number_of := f_number_of, d_number_of := PySem.W.fnOf "number_of" "number_of" (defArgs s_number_of) (defBody s_number_of) (defScope s_number_of) .none kV_number_of dc_number_of pm_number_of an_number_of cd_number_of ct_number_of, f_are_told := f_are_told, d_are_told := PySem.W.fnOf "are_told" "are_told" (defArgs s_are_told) (defBody s_are_told) (defScope s_are_told) .none kV_are_told dc_are_told pm_are_told an_are_told cd_are_told ct_are_told, f_is_mode := f_is_mode, d_is_mode := PySem.W.fnOf "is_mode" "is_mode" (defArgs s_is_mode) (defBody s_is_mode) (defScope s_is_mode) .none kV_is_mode dc_is_mode pm_is_mode an_is_mode cd_is_mode ct_is_mode, f_ascending := f_ascending, d_ascending := PySem.W.fnOf "ascending" "ascending" (defArgs s_ascending) (defBody s_ascending) (defScope s_ascending) .none kV_ascending dc_ascending pm_ascending an_ascending cd_ascending ct_ascending, f__law_pen := f__law_pen, d__law_pen := PySem.W.fnOf "_law_pen" "_law_pen" (defArgs s__law_pen) (defBody s__law_pen) (defScope s__law_pen) .none kV__law_pen dc__law_pen pm__law_pen an__law_pen cd__law_pen ct__law_pen, f__law_draw := f__law_draw, d__law_draw := PySem.W.fnOf "_law_draw" "_law_draw" (defArgs s__law_draw) (defBody s__law_draw) (defScope s__law_draw) .none kV__law_draw dc__law_draw pm__law_draw an__law_draw cd__law_draw ct__law_draw, f__law_pick := f__law_pick, d__law_pick := PySem.W.fnOf "_law_pick" "_law_pick" (defArgs s__law_pick) (defBody s__law_pick) (defScope s__law_pick) .none kV__law_pick dc__law_pick pm__law_pick an__law_pick cd__law_pick ct__law_pick, f__law_names := f__law_names, d__law_names := PySem.W.fnOf "_law_names" "_law_names" (defArgs s__law_names) (defBody s__law_names) (defScope s__law_names) .none kV__law_names dc__law_names pm__law_names an__law_names cd__law_names ct__law_names, f__law_line := f__law_line, d__law_line := PySem.W.fnOf "_law_line" "_law_line" (defArgs s__law_line) (defBody s__law_line) (defScope s__law_line) .none kV__law_line dc__law_line pm__law_line an__law_line cd__law_line ct__law_line, f__law_shown := f__law_shown, d__law_shown := PySem.W.fnOf "_law_shown" "_law_shown" (defArgs s__law_shown) (defBody s__law_shown) (defScope s__law_shown) .none kV__law_shown dc__law_shown pm__law_shown an__law_shown cd__law_shown ct__law_shown, f__law_even := f__law_even, d__law_even := PySem.W.fnOf "_law_even" "_law_even" (defArgs s__law_even) (defBody s__law_even) (defScope s__law_even) .none kV__law_even dc__law_even pm__law_even an__law_even cd__law_even ct__law_even, f__law_is_name := f__law_is_name, d__law_is_name := PySem.W.fnOf "_law_is_name" "_law_is_name" (defArgs s__law_is_name) (defBody s__law_is_name) (defScope s__law_is_name) .none kV__law_is_name dc__law_is_name pm__law_is_name an__law_is_name cd__law_is_name ct__law_is_name, f__law_is_told := f__law_is_told, d__law_is_told := PySem.W.fnOf "_law_is_told" "_law_is_told" (defArgs s__law_is_told) (defBody s__law_is_told) (defScope s__law_is_told) .none kV__law_is_told dc__law_is_told pm__law_is_told an__law_is_told cd__law_is_told ct__law_is_told, f__law_number := f__law_number, d__law_number := PySem.W.fnOf "_law_number" "_law_number" (defArgs s__law_number) (defBody s__law_number) (defScope s__law_number) .none kV__law_number dc__law_number pm__law_number an__law_number cd__law_number ct__law_number, f__law_due := f__law_due, d__law_due := PySem.W.fnOf "_law_due" "_law_due" (defArgs s__law_due) (defBody s__law_due) (defScope s__law_due) .none kV__law_due dc__law_due pm__law_due an__law_due cd__law_due ct__law_due, f__law_heard := f__law_heard, d__law_heard := PySem.W.fnOf "_law_heard" "_law_heard" (defArgs s__law_heard) (defBody s__law_heard) (defScope s__law_heard) .none kV__law_heard dc__law_heard pm__law_heard an__law_heard cd__law_heard ct__law_heard, f__law_odd_right := f__law_odd_right, d__law_odd_right := PySem.W.fnOf "_law_odd_right" "_law_odd_right" (defArgs s__law_odd_right) (defBody s__law_odd_right) (defScope s__law_odd_right) .none kV__law_odd_right dc__law_odd_right pm__law_odd_right an__law_odd_right (.ref cR) ct__law_odd_right, f_Mode := f_Mode, f_ModeD_initD := f_ModeD_initD, d_ModeD_initD := PySem.W.fnOf "__init__" "Mode.__init__" (defArgs s_ModeD_initD) (defBody s_ModeD_initD) (defScope s_ModeD_initD) .none kV_ModeD_initD dc_ModeD_initD pm_ModeD_initD an_ModeD_initD cd_ModeD_initD ct_ModeD_initD, f_Mode_number := f_Mode_number, d_Mode_number := PySem.W.fnOf "number" "Mode.number" (defArgs s_Mode_number) (defBody s_Mode_number) (defScope s_Mode_number) .none kV_Mode_number dc_Mode_number pm_Mode_number an_Mode_number cd_Mode_number ct_Mode_number, p_Mode_number := p_Mode_number, f_ModeD_eqD := f_ModeD_eqD, d_ModeD_eqD := PySem.W.fnOf "__eq__" "Mode.__eq__" (defArgs s_ModeD_eqD) (defBody s_ModeD_eqD) (defScope s_ModeD_eqD) .none kV_ModeD_eqD dc_ModeD_eqD pm_ModeD_eqD an_ModeD_eqD cd_ModeD_eqD ct_ModeD_eqD, f_Line := f_Line, f_LineD_initD := f_LineD_initD, d_LineD_initD := PySem.W.fnOf "__init__" "Line.__init__" (defArgs s_LineD_initD) (defBody s_LineD_initD) (defScope s_LineD_initD) (.ref k_DFL) kV_LineD_initD dc_LineD_initD pm_LineD_initD an_LineD_initD cd_LineD_initD ct_LineD_initD, f_Line_form := f_Line_form, d_Line_form := PySem.W.fnOf "form" "Line.form" (defArgs s_Line_form) (defBody s_Line_form) (defScope s_Line_form) .none kV_Line_form dc_Line_form pm_Line_form an_Line_form cd_Line_form ct_Line_form, p_Line_form := p_Line_form, f_Line_owners := f_Line_owners, d_Line_owners := PySem.W.fnOf "owners" "Line.owners" (defArgs s_Line_owners) (defBody s_Line_owners) (defScope s_Line_owners) .none kV_Line_owners dc_Line_owners pm_Line_owners an_Line_owners cd_Line_owners ct_Line_owners, p_Line_owners := p_Line_owners, f_Line_groups := f_Line_groups, d_Line_groups := PySem.W.fnOf "groups" "Line.groups" (defArgs s_Line_groups) (defBody s_Line_groups) (defScope s_Line_groups) .none kV_Line_groups dc_Line_groups pm_Line_groups an_Line_groups cd_Line_groups ct_Line_groups, p_Line_groups := p_Line_groups, f_Line_must := f_Line_must, d_Line_must := PySem.W.fnOf "must" "Line.must" (defArgs s_Line_must) (defBody s_Line_must) (defScope s_Line_must) .none kV_Line_must dc_Line_must pm_Line_must an_Line_must cd_Line_must ct_Line_must, p_Line_must := p_Line_must, f_Line_never := f_Line_never, d_Line_never := PySem.W.fnOf "never" "Line.never" (defArgs s_Line_never) (defBody s_Line_never) (defScope s_Line_never) .none kV_Line_never dc_Line_never pm_Line_never an_Line_never cd_Line_never ct_Line_never, p_Line_never := p_Line_never, f_LineD_eqD := f_LineD_eqD, d_LineD_eqD := PySem.W.fnOf "__eq__" "Line.__eq__" (defArgs s_LineD_eqD) (defBody s_LineD_eqD) (defScope s_LineD_eqD) .none kV_LineD_eqD dc_LineD_eqD pm_LineD_eqD an_LineD_eqD cd_LineD_eqD ct_LineD_eqD, k_FORMS := k_FORMS, x_BadKind := x_BadKind, x_BadInput := x_BadInput, x_ModesError := x_ModesError, f_BadKindD_initD := f_BadKindD_initD, d_BadKindD_initD := PySem.W.fnOf "__init__" "BadKind.__init__" (defArgs s_BadKindD_initD) (defBody s_BadKindD_initD) (defScope s_BadKindD_initD) .none kV_BadKindD_initD dc_BadKindD_initD pm_BadKindD_initD an_BadKindD_initD cd_BadKindD_initD ct_BadKindD_initD } := {
    b_isinstance := PySem.W.mg_none_of X G z_isinstance,
    b_int := PySem.W.mg_none_of X G z_int,
    b_str := PySem.W.mg_none_of X G z_str,
    b_bool := PySem.W.mg_none_of X G z_bool,
    b_list := PySem.W.mg_none_of X G z_list,
    b_len := PySem.W.mg_none_of X G z_len,
    b_abs := PySem.W.mg_none_of X G z_abs,
    b_range := PySem.W.mg_none_of X G z_range,
    b_tuple := PySem.W.mg_none_of X G z_tuple,
    b_all := PySem.W.mg_none_of X G z_all,
    b_set := PySem.W.mg_none_of X G z_set,
    b_sorted := PySem.W.mg_none_of X G z_sorted,
    b_repr := PySem.W.mg_none_of X G z_repr,
    mg_is_whole := PySem.W.mg_of X G a_is_whole,
    fn_is_whole := fun_mk (st := s_is_whole) l_is_whole co_is_whole kp_is_whole,
    mg_is_whole_to := PySem.W.mg_of X G a_is_whole_to,
    fn_is_whole_to := fun_mk (st := s_is_whole_to) l_is_whole_to co_is_whole_to kp_is_whole_to,
    mg_is_name := PySem.W.mg_of X G a_is_name,
    fn_is_name := fun_mk (st := s_is_name) l_is_name co_is_name kp_is_name,
    mg_are_unlike_names := PySem.W.mg_of X G a_are_unlike_names,
    fn_are_unlike_names := fun_mk (st := s_are_unlike_names) l_are_unlike_names co_are_unlike_names kp_are_unlike_names,
    mg_number_of := PySem.W.mg_of X G a_number_of,
    fn_number_of := fun_mk (st := s_number_of) l_number_of co_number_of kp_number_of,
    mg_are_told := PySem.W.mg_of X G a_are_told,
    fn_are_told := fun_mk (st := s_are_told) l_are_told co_are_told kp_are_told,
    mg_is_mode := PySem.W.mg_of X G a_is_mode,
    fn_is_mode := fun_mk (st := s_is_mode) l_is_mode co_is_mode kp_is_mode,
    mg_ascending := PySem.W.mg_of X G a_ascending,
    fn_ascending := fun_mk (st := s_ascending) l_ascending co_ascending kp_ascending,
    mg__law_pen := PySem.W.mg_of X G a__law_pen,
    fn__law_pen := fun_mk (st := s__law_pen) l__law_pen co__law_pen kp__law_pen,
    mg__law_draw := PySem.W.mg_of X G a__law_draw,
    fn__law_draw := fun_mk (st := s__law_draw) l__law_draw co__law_draw kp__law_draw,
    mg__law_pick := PySem.W.mg_of X G a__law_pick,
    fn__law_pick := fun_mk (st := s__law_pick) l__law_pick co__law_pick kp__law_pick,
    mg__law_names := PySem.W.mg_of X G a__law_names,
    fn__law_names := fun_mk (st := s__law_names) l__law_names co__law_names kp__law_names,
    mg__law_line := PySem.W.mg_of X G a__law_line,
    fn__law_line := fun_mk (st := s__law_line) l__law_line co__law_line kp__law_line,
    mg__law_shown := PySem.W.mg_of X G a__law_shown,
    fn__law_shown := fun_mk (st := s__law_shown) l__law_shown co__law_shown kp__law_shown,
    mg__law_even := PySem.W.mg_of X G a__law_even,
    fn__law_even := fun_mk (st := s__law_even) l__law_even co__law_even kp__law_even,
    mg__law_is_name := PySem.W.mg_of X G a__law_is_name,
    fn__law_is_name := fun_mk (st := s__law_is_name) l__law_is_name co__law_is_name kp__law_is_name,
    mg__law_is_told := PySem.W.mg_of X G a__law_is_told,
    fn__law_is_told := fun_mk (st := s__law_is_told) l__law_is_told co__law_is_told kp__law_is_told,
    mg__law_number := PySem.W.mg_of X G a__law_number,
    fn__law_number := fun_mk (st := s__law_number) l__law_number co__law_number kp__law_number,
    mg__law_due := PySem.W.mg_of X G a__law_due,
    fn__law_due := fun_mk (st := s__law_due) l__law_due co__law_due kp__law_due,
    mg__law_heard := PySem.W.mg_of X G a__law_heard,
    fn__law_heard := fun_mk (st := s__law_heard) l__law_heard co__law_heard kp__law_heard,
    mg__law_odd_right := PySem.W.mg_of X G a__law_odd_right,
    fn__law_odd_right := fun_mk (st := s__law_odd_right) l__law_odd_right co__law_odd_right kp__law_odd_right,
    mg_Mode := PySem.W.mg_of X G a_Mode,
    c_Mode := ⟨pg_Mode, hd_Mode, po_Mode, sa_Mode⟩,
    n_number_Mode := n_number_Mode,
    mk_Mode := ⟨mk_Mode, at_ModeD_initD, fi_ModeD_initD, kc_Mode⟩,
    fn_ModeD_initD := fun_mk (st := s_ModeD_initD) l_ModeD_initD co_ModeD_initD kp_ModeD_initD,
    p_Mode_number := ⟨at_Mode_number, ge_Mode_number, ta_Mode_number, ⟨_, rc_Mode_number⟩⟩,
    fn_Mode_number := fun_mk (st := s_Mode_number) l_Mode_number co_Mode_number kp_Mode_number,
    m_ModeD_eqD := ⟨at_ModeD_eqD, fi_ModeD_eqD, kp_ModeD_eqD⟩,
    fn_ModeD_eqD := fun_mk (st := s_ModeD_eqD) l_ModeD_eqD co_ModeD_eqD kp_ModeD_eqD,
    r_Mode := ⟨rd_Mode, ga_Mode⟩,
    k_Mode_MOST := ⟨_, ⟨cv_Mode_MOST, ⟨_, rfl⟩⟩⟩,
    ia_Mode := ia_Mode,
    im_Mode := im_Mode,
    is_Mode := kit_self,
    nt_Mode_str := kit_noT ci_Mode ti_Mode sn_Mode_str,
    nt_Mode_tuple := kit_noT ci_Mode ti_Mode sn_Mode_tuple,
    nt_Mode_int := kit_noT ci_Mode ti_Mode sn_Mode_int,
    nt_Mode_NoneType := kit_noT ci_Mode ti_Mode sn_Mode_NoneType,
    nt_Mode_bool := kit_noT ci_Mode ti_Mode sn_Mode_bool,
    nt_Mode_list := kit_noT ci_Mode ti_Mode sn_Mode_list,
    nt_Mode_dict := kit_noT ci_Mode ti_Mode sn_Mode_dict,
    mi_Mode_int := kit_rt (by decide +kernel) sr_Mode_int,
    mi_Mode_bool := kit_rt (by decide +kernel) sr_Mode_bool,
    mi_Mode_list := kit_rt (by decide +kernel) sr_Mode_list,
    mi_Mode_tuple := kit_rt (by decide +kernel) sr_Mode_tuple,
    mi_Mode_str := kit_rt (by decide +kernel) sr_Mode_str,
    en_Mode := en_Mode,
    nf_Mode := nf_Mode,
    mg_Line := PySem.W.mg_of X G a_Line,
    c_Line := ⟨pg_Line, hd_Line, po_Line, sa_Line⟩,
    n_form_Line := n_form_Line,
    n_owners_Line := n_owners_Line,
    n_groups_Line := n_groups_Line,
    n_must_Line := n_must_Line,
    n_never_Line := n_never_Line,
    mk_Line := ⟨mk_Line, at_LineD_initD, fi_LineD_initD, kc_Line⟩,
    fn_LineD_initD := fund_mk (st := s_LineD_initD) l_LineD_initD co_LineD_initD kp_LineD_initD lt_DFL vl_DFL (fun z => nomatch z),
    p_Line_form := ⟨at_Line_form, ge_Line_form, ta_Line_form, ⟨_, rc_Line_form⟩⟩,
    fn_Line_form := fun_mk (st := s_Line_form) l_Line_form co_Line_form kp_Line_form,
    p_Line_owners := ⟨at_Line_owners, ge_Line_owners, ta_Line_owners, ⟨_, rc_Line_owners⟩⟩,
    fn_Line_owners := fun_mk (st := s_Line_owners) l_Line_owners co_Line_owners kp_Line_owners,
    p_Line_groups := ⟨at_Line_groups, ge_Line_groups, ta_Line_groups, ⟨_, rc_Line_groups⟩⟩,
    fn_Line_groups := fun_mk (st := s_Line_groups) l_Line_groups co_Line_groups kp_Line_groups,
    p_Line_must := ⟨at_Line_must, ge_Line_must, ta_Line_must, ⟨_, rc_Line_must⟩⟩,
    fn_Line_must := fun_mk (st := s_Line_must) l_Line_must co_Line_must kp_Line_must,
    p_Line_never := ⟨at_Line_never, ge_Line_never, ta_Line_never, ⟨_, rc_Line_never⟩⟩,
    fn_Line_never := fun_mk (st := s_Line_never) l_Line_never co_Line_never kp_Line_never,
    m_LineD_eqD := ⟨at_LineD_eqD, fi_LineD_eqD, kp_LineD_eqD⟩,
    fn_LineD_eqD := fun_mk (st := s_LineD_eqD) l_LineD_eqD co_LineD_eqD kp_LineD_eqD,
    ia_Line := ia_Line,
    im_Line := im_Line,
    is_Line := kit_self,
    nt_Line_str := kit_noT ci_Line ti_Line sn_Line_str,
    nt_Line_tuple := kit_noT ci_Line ti_Line sn_Line_tuple,
    nt_Line_int := kit_noT ci_Line ti_Line sn_Line_int,
    nt_Line_NoneType := kit_noT ci_Line ti_Line sn_Line_NoneType,
    nt_Line_bool := kit_noT ci_Line ti_Line sn_Line_bool,
    nt_Line_list := kit_noT ci_Line ti_Line sn_Line_list,
    nt_Line_dict := kit_noT ci_Line ti_Line sn_Line_dict,
    mi_Line_int := kit_rt (by decide +kernel) sr_Line_int,
    mi_Line_bool := kit_rt (by decide +kernel) sr_Line_bool,
    mi_Line_list := kit_rt (by decide +kernel) sr_Line_list,
    mi_Line_tuple := kit_rt (by decide +kernel) sr_Line_tuple,
    mi_Line_str := kit_rt (by decide +kernel) sr_Line_str,
    en_Line := en_Line,
    nf_Line := nf_Line,
    nf_Line_tuple := nfLt,
    at__law_odd_right := ⟨_, _, _, _, _, _, _, _, rfl, l__law_odd_right⟩,
    co__law_odd_right := co__law_odd_right,
    in_ := in0,
    it_ := it0,
    mg_FORMS := PySem.W.mg_of X G a_FORMS,
    t_FORMS := fun H => tup_at lt_FORMS sz_FORMS vl_FORMS,
    mg_LETTERS := ⟨_, PySem.W.mg_of X G a_LETTERS⟩,
    mg_BadKind := PySem.W.mg_of X G a_BadKind,
    mg_BadInput := PySem.W.mg_of X G a_BadInput,
    mg_ModesError := PySem.W.mg_of X G a_ModesError,
    ks_BadKind := kit_self,
    ks_BadInput := kit_ref cix_BadInput tix_BadInput suBI neBI,
    ec_BadKind := ⟨ga_B, gg_B, ex_B, hd_B, cc_B, in0, it0, mr_B⟩,
    ox_BadKind := ⟨⟨_, _, _, _, _, _, _, _, _, _, _, _, _, _, _, xl_B, rf_B⟩, sa_B, ex_B, ty_B, kp_B⟩,
    ic_BadKind := in_B,
    it_BadKind := ti_B,
    np_BadKind := np_B,
    em_BadKind := exm_ref bex_ME cix_ModesError tix_ModesError sux_ME,
    fn_BadKindD_initD := fun_mk (st := s_BadKindD_initD) l_BadKindD_initD co_BadKindD_initD kp_BadKindD_initD
  }
  refine ⟨PySem.W.fnOf "law" "law" (defArgs s_law) (defBody s_law) (defScope s_law) .none kV_law dc_law pm_law an_law cd_law ct_law, [(cR, PR)], spLaw { cR := cR, PR := PR, f_is_whole := f_is_whole, d_is_whole := PySem.W.fnOf "is_whole" "is_whole" (defArgs s_is_whole) (defBody s_is_whole) (defScope s_is_whole) .none kV_is_whole dc_is_whole pm_is_whole an_is_whole cd_is_whole ct_is_whole, f_is_whole_to := f_is_whole_to, d_is_whole_to := PySem.W.fnOf "is_whole_to" "is_whole_to" (defArgs s_is_whole_to) (defBody s_is_whole_to) (defScope s_is_whole_to) .none kV_is_whole_to dc_is_whole_to pm_is_whole_to an_is_whole_to cd_is_whole_to ct_is_whole_to, f_is_name := f_is_name, d_is_name := PySem.W.fnOf "is_name" "is_name" (defArgs s_is_name) (defBody s_is_name) (defScope s_is_name) .none kV_is_name dc_is_name pm_is_name an_is_name cd_is_name ct_is_name, f_are_unlike_names := f_are_unlike_names, d_are_unlike_names := PySem.W.fnOf "are_unlike_names" "are_unlike_names" (defArgs s_are_unlike_names) (defBody s_are_unlike_names) (defScope s_are_unlike_names) .none kV_are_unlike_names dc_are_unlike_names pm_are_unlike_names an_are_unlike_names cd_are_unlike_names ct_are_unlike_names, f_number_of := f_number_of, d_number_of := PySem.W.fnOf "number_of" "number_of" (defArgs s_number_of) (defBody s_number_of) (defScope s_number_of) .none kV_number_of dc_number_of pm_number_of an_number_of cd_number_of ct_number_of, f_are_told := f_are_told, d_are_told := PySem.W.fnOf "are_told" "are_told" (defArgs s_are_told) (defBody s_are_told) (defScope s_are_told) .none kV_are_told dc_are_told pm_are_told an_are_told cd_are_told ct_are_told, f_is_mode := f_is_mode, d_is_mode := PySem.W.fnOf "is_mode" "is_mode" (defArgs s_is_mode) (defBody s_is_mode) (defScope s_is_mode) .none kV_is_mode dc_is_mode pm_is_mode an_is_mode cd_is_mode ct_is_mode, f_ascending := f_ascending, d_ascending := PySem.W.fnOf "ascending" "ascending" (defArgs s_ascending) (defBody s_ascending) (defScope s_ascending) .none kV_ascending dc_ascending pm_ascending an_ascending cd_ascending ct_ascending, f__law_pen := f__law_pen, d__law_pen := PySem.W.fnOf "_law_pen" "_law_pen" (defArgs s__law_pen) (defBody s__law_pen) (defScope s__law_pen) .none kV__law_pen dc__law_pen pm__law_pen an__law_pen cd__law_pen ct__law_pen, f__law_draw := f__law_draw, d__law_draw := PySem.W.fnOf "_law_draw" "_law_draw" (defArgs s__law_draw) (defBody s__law_draw) (defScope s__law_draw) .none kV__law_draw dc__law_draw pm__law_draw an__law_draw cd__law_draw ct__law_draw, f__law_pick := f__law_pick, d__law_pick := PySem.W.fnOf "_law_pick" "_law_pick" (defArgs s__law_pick) (defBody s__law_pick) (defScope s__law_pick) .none kV__law_pick dc__law_pick pm__law_pick an__law_pick cd__law_pick ct__law_pick, f__law_names := f__law_names, d__law_names := PySem.W.fnOf "_law_names" "_law_names" (defArgs s__law_names) (defBody s__law_names) (defScope s__law_names) .none kV__law_names dc__law_names pm__law_names an__law_names cd__law_names ct__law_names, f__law_line := f__law_line, d__law_line := PySem.W.fnOf "_law_line" "_law_line" (defArgs s__law_line) (defBody s__law_line) (defScope s__law_line) .none kV__law_line dc__law_line pm__law_line an__law_line cd__law_line ct__law_line, f__law_shown := f__law_shown, d__law_shown := PySem.W.fnOf "_law_shown" "_law_shown" (defArgs s__law_shown) (defBody s__law_shown) (defScope s__law_shown) .none kV__law_shown dc__law_shown pm__law_shown an__law_shown cd__law_shown ct__law_shown, f__law_even := f__law_even, d__law_even := PySem.W.fnOf "_law_even" "_law_even" (defArgs s__law_even) (defBody s__law_even) (defScope s__law_even) .none kV__law_even dc__law_even pm__law_even an__law_even cd__law_even ct__law_even, f__law_is_name := f__law_is_name, d__law_is_name := PySem.W.fnOf "_law_is_name" "_law_is_name" (defArgs s__law_is_name) (defBody s__law_is_name) (defScope s__law_is_name) .none kV__law_is_name dc__law_is_name pm__law_is_name an__law_is_name cd__law_is_name ct__law_is_name, f__law_is_told := f__law_is_told, d__law_is_told := PySem.W.fnOf "_law_is_told" "_law_is_told" (defArgs s__law_is_told) (defBody s__law_is_told) (defScope s__law_is_told) .none kV__law_is_told dc__law_is_told pm__law_is_told an__law_is_told cd__law_is_told ct__law_is_told, f__law_number := f__law_number, d__law_number := PySem.W.fnOf "_law_number" "_law_number" (defArgs s__law_number) (defBody s__law_number) (defScope s__law_number) .none kV__law_number dc__law_number pm__law_number an__law_number cd__law_number ct__law_number, f__law_due := f__law_due, d__law_due := PySem.W.fnOf "_law_due" "_law_due" (defArgs s__law_due) (defBody s__law_due) (defScope s__law_due) .none kV__law_due dc__law_due pm__law_due an__law_due cd__law_due ct__law_due, f__law_heard := f__law_heard, d__law_heard := PySem.W.fnOf "_law_heard" "_law_heard" (defArgs s__law_heard) (defBody s__law_heard) (defScope s__law_heard) .none kV__law_heard dc__law_heard pm__law_heard an__law_heard cd__law_heard ct__law_heard, f__law_odd_right := f__law_odd_right, d__law_odd_right := PySem.W.fnOf "_law_odd_right" "_law_odd_right" (defArgs s__law_odd_right) (defBody s__law_odd_right) (defScope s__law_odd_right) .none kV__law_odd_right dc__law_odd_right pm__law_odd_right an__law_odd_right (.ref cR) ct__law_odd_right, f_Mode := f_Mode, f_ModeD_initD := f_ModeD_initD, d_ModeD_initD := PySem.W.fnOf "__init__" "Mode.__init__" (defArgs s_ModeD_initD) (defBody s_ModeD_initD) (defScope s_ModeD_initD) .none kV_ModeD_initD dc_ModeD_initD pm_ModeD_initD an_ModeD_initD cd_ModeD_initD ct_ModeD_initD, f_Mode_number := f_Mode_number, d_Mode_number := PySem.W.fnOf "number" "Mode.number" (defArgs s_Mode_number) (defBody s_Mode_number) (defScope s_Mode_number) .none kV_Mode_number dc_Mode_number pm_Mode_number an_Mode_number cd_Mode_number ct_Mode_number, p_Mode_number := p_Mode_number, f_ModeD_eqD := f_ModeD_eqD, d_ModeD_eqD := PySem.W.fnOf "__eq__" "Mode.__eq__" (defArgs s_ModeD_eqD) (defBody s_ModeD_eqD) (defScope s_ModeD_eqD) .none kV_ModeD_eqD dc_ModeD_eqD pm_ModeD_eqD an_ModeD_eqD cd_ModeD_eqD ct_ModeD_eqD, f_Line := f_Line, f_LineD_initD := f_LineD_initD, d_LineD_initD := PySem.W.fnOf "__init__" "Line.__init__" (defArgs s_LineD_initD) (defBody s_LineD_initD) (defScope s_LineD_initD) (.ref k_DFL) kV_LineD_initD dc_LineD_initD pm_LineD_initD an_LineD_initD cd_LineD_initD ct_LineD_initD, f_Line_form := f_Line_form, d_Line_form := PySem.W.fnOf "form" "Line.form" (defArgs s_Line_form) (defBody s_Line_form) (defScope s_Line_form) .none kV_Line_form dc_Line_form pm_Line_form an_Line_form cd_Line_form ct_Line_form, p_Line_form := p_Line_form, f_Line_owners := f_Line_owners, d_Line_owners := PySem.W.fnOf "owners" "Line.owners" (defArgs s_Line_owners) (defBody s_Line_owners) (defScope s_Line_owners) .none kV_Line_owners dc_Line_owners pm_Line_owners an_Line_owners cd_Line_owners ct_Line_owners, p_Line_owners := p_Line_owners, f_Line_groups := f_Line_groups, d_Line_groups := PySem.W.fnOf "groups" "Line.groups" (defArgs s_Line_groups) (defBody s_Line_groups) (defScope s_Line_groups) .none kV_Line_groups dc_Line_groups pm_Line_groups an_Line_groups cd_Line_groups ct_Line_groups, p_Line_groups := p_Line_groups, f_Line_must := f_Line_must, d_Line_must := PySem.W.fnOf "must" "Line.must" (defArgs s_Line_must) (defBody s_Line_must) (defScope s_Line_must) .none kV_Line_must dc_Line_must pm_Line_must an_Line_must cd_Line_must ct_Line_must, p_Line_must := p_Line_must, f_Line_never := f_Line_never, d_Line_never := PySem.W.fnOf "never" "Line.never" (defArgs s_Line_never) (defBody s_Line_never) (defScope s_Line_never) .none kV_Line_never dc_Line_never pm_Line_never an_Line_never cd_Line_never ct_Line_never, p_Line_never := p_Line_never, f_LineD_eqD := f_LineD_eqD, d_LineD_eqD := PySem.W.fnOf "__eq__" "Line.__eq__" (defArgs s_LineD_eqD) (defBody s_LineD_eqD) (defScope s_LineD_eqD) .none kV_LineD_eqD dc_LineD_eqD pm_LineD_eqD an_LineD_eqD cd_LineD_eqD ct_LineD_eqD, k_FORMS := k_FORMS, x_BadKind := x_BadKind, x_BadInput := x_BadInput, x_ModesError := x_ModesError, f_BadKindD_initD := f_BadKindD_initD, d_BadKindD_initD := PySem.W.fnOf "__init__" "BadKind.__init__" (defArgs s_BadKindD_initD) (defBody s_BadKindD_initD) (defScope s_BadKindD_initD) .none kV_BadKindD_initD dc_BadKindD_initD pm_BadKindD_initD an_BadKindD_initD cd_BadKindD_initD ct_BadKindD_initD } K, fun p hp => ?_, fun p hp => ?_, fun p hp => ?_, fun s v => .of_eq rfl, fun H b ns hl hT hS => ⟨b, ns, rfl, hS, hl, hT (cR, PR) (List.mem_singleton.mpr rfl), fun _ => rfl⟩, fun base _ _ TB => (ok_law T (TB (cR, PR) (List.mem_singleton.mpr rfl)) l_law co_law).run callerA rfl ⟨rfl, by decide, by decide⟩⟩
  · rw [List.mem_singleton.mp hp]; exact tb_PR
  · rw [List.mem_singleton.mp hp]; exact kl_PR
  · rw [List.mem_singleton.mp hp]; exact ch_PR
end KP
open PySem PySem.W PyProof.Rows
set_option maxRecDepth 100000 in
set_option maxHeartbeats 0 in
theorem PySem.Challenge.cw_modesdown_k34_lines_made_holds : PySem.Challenge.rw_modesdown_k34_lines_made.Holds := by
  w_on; o_law; k_head; (case hw => w_witness2)
  k_fill
  refine KD.walk_tabs (x := "_law_script") rfl rfl (fun w h Y => PySem.W.km_in_of Y) ?F
  case F =>
    intro w mg fa h Y kIn G hmg
    refine' KP.all_mk kIn G hmg ?z_isinstance ?z_int ?z_str ?z_bool ?z_list ?z_len ?z_abs ?z_range ?z_tuple ?z_all ?z_set ?z_sorted ?z_repr ?a_is_whole ?l_is_whole ?co_is_whole ?kp_is_whole ?a_is_whole_to ?l_is_whole_to ?co_is_whole_to ?kp_is_whole_to ?a_is_name ?l_is_name ?co_is_name ?kp_is_name ?a_are_unlike_names ?l_are_unlike_names ?co_are_unlike_names ?kp_are_unlike_names ?a_number_of ?l_number_of ?co_number_of ?kp_number_of ?a_are_told ?l_are_told ?co_are_told ?kp_are_told ?a_is_mode ?l_is_mode ?co_is_mode ?kp_is_mode ?a_ascending ?l_ascending ?co_ascending ?kp_ascending ?a__law_pen ?l__law_pen ?co__law_pen ?kp__law_pen ?a__law_draw ?l__law_draw ?co__law_draw ?kp__law_draw ?a__law_pick ?l__law_pick ?co__law_pick ?kp__law_pick ?a__law_names ?l__law_names ?co__law_names ?kp__law_names ?a__law_line ?l__law_line ?co__law_line ?kp__law_line ?a__law_shown ?l__law_shown ?co__law_shown ?kp__law_shown ?a__law_even ?l__law_even ?co__law_even ?kp__law_even ?a__law_is_name ?l__law_is_name ?co__law_is_name ?kp__law_is_name ?a__law_is_told ?l__law_is_told ?co__law_is_told ?kp__law_is_told ?a__law_number ?l__law_number ?co__law_number ?kp__law_number ?a__law_due ?l__law_due ?co__law_due ?kp__law_due ?a__law_heard ?l__law_heard ?co__law_heard ?kp__law_heard ?a__law_odd_right ?l__law_odd_right ?co__law_odd_right ?kp__law_odd_right ?a_Mode ?pg_Mode ?hd_Mode ?po_Mode ?sa_Mode ?n_number_Mode ?at_ModeD_initD ?fi_ModeD_initD ?mk_Mode ?kc_Mode ?l_ModeD_initD ?co_ModeD_initD ?kp_ModeD_initD ?at_Mode_number ?ge_Mode_number ?ta_Mode_number ?rc_Mode_number ?l_Mode_number ?co_Mode_number ?kp_Mode_number ?at_ModeD_eqD ?fi_ModeD_eqD ?l_ModeD_eqD ?co_ModeD_eqD ?kp_ModeD_eqD ?rd_Mode ?ga_Mode ?cv_Mode_MOST ?ia_Mode ?im_Mode ?ci_Mode ?ti_Mode ?sn_Mode_str ?sn_Mode_tuple ?sn_Mode_int ?sn_Mode_NoneType ?sn_Mode_bool ?sn_Mode_list ?sn_Mode_dict ?sr_Mode_int ?sr_Mode_bool ?sr_Mode_list ?sr_Mode_tuple ?sr_Mode_str ?en_Mode ?nf_Mode ?a_Line ?pg_Line ?hd_Line ?po_Line ?sa_Line ?n_form_Line ?n_owners_Line ?n_groups_Line ?n_must_Line ?n_never_Line ?at_LineD_initD ?fi_LineD_initD ?mk_Line ?kc_Line ?l_LineD_initD ?co_LineD_initD ?kp_LineD_initD ?lt_DFL ?vl_DFL ?at_Line_form ?ge_Line_form ?ta_Line_form ?rc_Line_form ?l_Line_form ?co_Line_form ?kp_Line_form ?at_Line_owners ?ge_Line_owners ?ta_Line_owners ?rc_Line_owners ?l_Line_owners ?co_Line_owners ?kp_Line_owners ?at_Line_groups ?ge_Line_groups ?ta_Line_groups ?rc_Line_groups ?l_Line_groups ?co_Line_groups ?kp_Line_groups ?at_Line_must ?ge_Line_must ?ta_Line_must ?rc_Line_must ?l_Line_must ?co_Line_must ?kp_Line_must ?at_Line_never ?ge_Line_never ?ta_Line_never ?rc_Line_never ?l_Line_never ?co_Line_never ?kp_Line_never ?at_LineD_eqD ?fi_LineD_eqD ?l_LineD_eqD ?co_LineD_eqD ?kp_LineD_eqD ?ia_Line ?im_Line ?ci_Line ?ti_Line ?sn_Line_str ?sn_Line_tuple ?sn_Line_int ?sn_Line_NoneType ?sn_Line_bool ?sn_Line_list ?sn_Line_dict ?sr_Line_int ?sr_Line_bool ?sr_Line_list ?sr_Line_tuple ?sr_Line_str ?en_Line ?nf_Line ?nfLt ?in0 ?it0 ?a_FORMS ?lt_FORMS ?sz_FORMS ?vl_FORMS ?a_LETTERS ?a_BadKind ?a_BadInput ?a_ModesError ?xl_B ?rf_B ?sa_B ?ex_B ?ty_B ?kp_B ?ga_B ?gg_B ?hd_B ?cc_B ?mr_B ?np_B ?in_B ?ti_B ?l_BadKindD_initD ?co_BadKindD_initD ?kp_BadKindD_initD ?cix_ModesError ?tix_ModesError ?cix_BadInput ?tix_BadInput ?suBI ?neBI ?bex_ME ?sux_ME ?a_law ?l_law ?co_law ?kp_law ?lc_PR ?v11_PR ?ch_PR ?kl_PR ?tb_PR
    (case z_isinstance => k_is)
    (case z_int => k_is)
    (case z_str => k_is)
    (case z_bool => k_is)
    (case z_list => k_is)
    (case z_len => k_is)
    (case z_abs => k_is)
    (case z_range => k_is)
    (case z_tuple => k_is)
    (case z_all => k_is)
    (case z_set => k_is)
    (case z_sorted => k_is)
    (case z_repr => k_is)
    (case a_is_whole => k_is)
    (case l_is_whole => k_is)
    (case co_is_whole => k_is)
    (case kp_is_whole => k_is)
    (case a_is_whole_to => k_is)
    (case l_is_whole_to => k_is)
    (case co_is_whole_to => k_is)
    (case kp_is_whole_to => k_is)
    (case a_is_name => k_is)
    (case l_is_name => k_is)
    (case co_is_name => k_is)
    (case kp_is_name => k_is)
    (case a_are_unlike_names => k_is)
    (case l_are_unlike_names => k_is)
    (case co_are_unlike_names => k_is)
    (case kp_are_unlike_names => k_is)
    (case a_number_of => k_is)
    (case l_number_of => k_is)
    (case co_number_of => k_is)
    (case kp_number_of => k_is)
    (case a_are_told => k_is)
    (case l_are_told => k_is)
    (case co_are_told => k_is)
    (case kp_are_told => k_is)
    (case a_is_mode => k_is)
    (case l_is_mode => k_is)
    (case co_is_mode => k_is)
    (case kp_is_mode => k_is)
    (case a_ascending => k_is)
    (case l_ascending => k_is)
    (case co_ascending => k_is)
    (case kp_ascending => k_is)
    (case a__law_pen => k_is)
    (case l__law_pen => k_is)
    (case co__law_pen => k_is)
    (case kp__law_pen => k_is)
    (case a__law_draw => k_is)
    (case l__law_draw => k_is)
    (case co__law_draw => k_is)
    (case kp__law_draw => k_is)
    (case a__law_pick => k_is)
    (case l__law_pick => k_is)
    (case co__law_pick => k_is)
    (case kp__law_pick => k_is)
    (case a__law_names => k_is)
    (case l__law_names => k_is)
    (case co__law_names => k_is)
    (case kp__law_names => k_is)
    (case a__law_line => k_is)
    (case l__law_line => k_is)
    (case co__law_line => k_is)
    (case kp__law_line => k_is)
    (case a__law_shown => k_is)
    (case l__law_shown => k_is)
    (case co__law_shown => k_is)
    (case kp__law_shown => k_is)
    (case a__law_even => k_is)
    (case l__law_even => k_is)
    (case co__law_even => k_is)
    (case kp__law_even => k_is)
    (case a__law_is_name => k_is)
    (case l__law_is_name => k_is)
    (case co__law_is_name => k_is)
    (case kp__law_is_name => k_is)
    (case a__law_is_told => k_is)
    (case l__law_is_told => k_is)
    (case co__law_is_told => k_is)
    (case kp__law_is_told => k_is)
    (case a__law_number => k_is)
    (case l__law_number => k_is)
    (case co__law_number => k_is)
    (case kp__law_number => k_is)
    (case a__law_due => k_is)
    (case l__law_due => k_is)
    (case co__law_due => k_is)
    (case kp__law_due => k_is)
    (case a__law_heard => k_is)
    (case l__law_heard => k_is)
    (case co__law_heard => k_is)
    (case kp__law_heard => k_is)
    (case a__law_odd_right => k_is)
    (case l__law_odd_right => k_is)
    (case co__law_odd_right => k_is)
    (case kp__law_odd_right => k_is)
    (case a_Mode => k_is)
    (case pg_Mode => k_is)
    (case hd_Mode => k_is)
    (case po_Mode => k_is)
    (case sa_Mode => k_is)
    (case n_number_Mode => k_is)
    (case at_ModeD_initD => k_is)
    (case fi_ModeD_initD => k_is)
    (case mk_Mode => k_is)
    (case kc_Mode => k_is)
    (case l_ModeD_initD => k_is)
    (case co_ModeD_initD => k_is)
    (case kp_ModeD_initD => k_is)
    (case at_Mode_number => k_is)
    (case ge_Mode_number => k_is)
    (case ta_Mode_number => k_is)
    (case rc_Mode_number => k_is)
    (case l_Mode_number => k_is)
    (case co_Mode_number => k_is)
    (case kp_Mode_number => k_is)
    (case at_ModeD_eqD => k_is)
    (case fi_ModeD_eqD => k_is)
    (case l_ModeD_eqD => k_is)
    (case co_ModeD_eqD => k_is)
    (case kp_ModeD_eqD => k_is)
    (case rd_Mode => k_is)
    (case ga_Mode => k_is)
    (case cv_Mode_MOST => k_is)
    (case ia_Mode => k_is)
    (case im_Mode => k_is)
    (case ci_Mode => k_is)
    (case ti_Mode => k_is)
    (case sn_Mode_str => k_is)
    (case sn_Mode_tuple => k_is)
    (case sn_Mode_int => k_is)
    (case sn_Mode_NoneType => k_is)
    (case sn_Mode_bool => k_is)
    (case sn_Mode_list => k_is)
    (case sn_Mode_dict => k_is)
    (case sr_Mode_int => k_is)
    (case sr_Mode_bool => k_is)
    (case sr_Mode_list => k_is)
    (case sr_Mode_tuple => k_is)
    (case sr_Mode_str => k_is)
    (case en_Mode => k_is)
    (case nf_Mode => k_is)
    (case a_Line => k_is)
    (case pg_Line => k_is)
    (case hd_Line => k_is)
    (case po_Line => k_is)
    (case sa_Line => k_is)
    (case n_form_Line => k_is)
    (case n_owners_Line => k_is)
    (case n_groups_Line => k_is)
    (case n_must_Line => k_is)
    (case n_never_Line => k_is)
    (case at_LineD_initD => k_is)
    (case fi_LineD_initD => k_is)
    (case mk_Line => k_is)
    (case kc_Line => k_is)
    (case l_LineD_initD => k_is)
    (case co_LineD_initD => k_is)
    (case kp_LineD_initD => k_is)
    (case lt_DFL => k_is)
    (case vl_DFL => exact .cons rfl (.cons rfl (.cons ⟨_, rfl⟩ (.cons ⟨_, rfl⟩ .nil))))
    (case at_Line_form => k_is)
    (case ge_Line_form => k_is)
    (case ta_Line_form => k_is)
    (case rc_Line_form => k_is)
    (case l_Line_form => k_is)
    (case co_Line_form => k_is)
    (case kp_Line_form => k_is)
    (case at_Line_owners => k_is)
    (case ge_Line_owners => k_is)
    (case ta_Line_owners => k_is)
    (case rc_Line_owners => k_is)
    (case l_Line_owners => k_is)
    (case co_Line_owners => k_is)
    (case kp_Line_owners => k_is)
    (case at_Line_groups => k_is)
    (case ge_Line_groups => k_is)
    (case ta_Line_groups => k_is)
    (case rc_Line_groups => k_is)
    (case l_Line_groups => k_is)
    (case co_Line_groups => k_is)
    (case kp_Line_groups => k_is)
    (case at_Line_must => k_is)
    (case ge_Line_must => k_is)
    (case ta_Line_must => k_is)
    (case rc_Line_must => k_is)
    (case l_Line_must => k_is)
    (case co_Line_must => k_is)
    (case kp_Line_must => k_is)
    (case at_Line_never => k_is)
    (case ge_Line_never => k_is)
    (case ta_Line_never => k_is)
    (case rc_Line_never => k_is)
    (case l_Line_never => k_is)
    (case co_Line_never => k_is)
    (case kp_Line_never => k_is)
    (case at_LineD_eqD => k_is)
    (case fi_LineD_eqD => k_is)
    (case l_LineD_eqD => k_is)
    (case co_LineD_eqD => k_is)
    (case kp_LineD_eqD => k_is)
    (case ia_Line => k_is)
    (case im_Line => k_is)
    (case ci_Line => k_is)
    (case ti_Line => k_is)
    (case sn_Line_str => k_is)
    (case sn_Line_tuple => k_is)
    (case sn_Line_int => k_is)
    (case sn_Line_NoneType => k_is)
    (case sn_Line_bool => k_is)
    (case sn_Line_list => k_is)
    (case sn_Line_dict => k_is)
    (case sr_Line_int => k_is)
    (case sr_Line_bool => k_is)
    (case sr_Line_list => k_is)
    (case sr_Line_tuple => k_is)
    (case sr_Line_str => k_is)
    (case en_Line => k_is)
    (case nf_Line => k_is)
    (case nfLt => k_is)
    (case in0 => k_is)
    (case it0 => k_is)
    (case a_FORMS => k_is)
    (case lt_FORMS => k_is)
    (case sz_FORMS => (exact Nat.le_of_lt (L2.small1000 (by decide))))
    (case vl_FORMS => exact (.cons ⟨_, rfl⟩ (.cons ⟨_, rfl⟩ .nil)))
    (case a_LETTERS => k_is)
    (case a_BadKind => k_is)
    (case a_BadInput => k_is)
    (case a_ModesError => k_is)
    (case xl_B => k_is)
    (case rf_B => decide +kernel)
    (case sa_B => k_is)
    (case ex_B => k_is)
    (case ty_B => k_is)
    (case kp_B => k_is)
    (case ga_B => k_is)
    (case gg_B => k_is)
    (case hd_B => k_is)
    (case cc_B => k_is)
    (case mr_B => k_is)
    (case np_B => k_is)
    (case in_B => k_is)
    (case ti_B => k_is)
    (case l_BadKindD_initD => k_is)
    (case co_BadKindD_initD => k_is)
    (case kp_BadKindD_initD => k_is)
    (case cix_ModesError => k_is)
    (case tix_ModesError => k_is)
    (case cix_BadInput => k_is)
    (case tix_BadInput => k_is)
    (case suBI => k_is)
    (case neBI => decide)
    (case bex_ME => k_is)
    (case sux_ME => k_is)
    (case a_law => k_is)
    (case l_law => k_is)
    (case co_law => k_is)
    (case kp_law => k_is)
    (case lc_PR => k_is)
    (case v11_PR => rfl)
    (case ch_PR => kernel_rfl)
    (case kl_PR => first | k_is | kernel_rfl)
    (case tb_PR => exact PySem.W.km_tabs_of Y _ (by k_mem))
