import PyProof.Rows.All
import HandS.MethStar
import HandS.SlotsOwn
import HandS.Star
import HandS.More
import HandS.IsInst
import KE.KCallOwn
import KE.KxField
import HandS.FStr
import PyProof.Rows.StrIntSpec
import PyProof.FString3
import PyProof.FactsAll.int_2
import KE.KxWritten
import HandS.Lambda
import HandS.Codes
import HandS.Words
import HandS.EndTab
import HandS.EndBits
import HandS.NestedK
import KE.KNestM
import PyProof.ReprRoads
import HandS.Evl
import HandS.ExcInit
import HandS.ExcIs
import HandS.ExcCtx
import HandS.SuiteRaise
import KE.KExcIs
import Wide.All
import OpenK.AllK
import Wide.FinOn
import HandS.ForMost
import HandS.Property
import HandS.ClsMeth
import HandS.Conv
import HandS.Wide
import HandS.WideBits
import HandS.Flow
import HandS.Zip
import HandS.Strs
import KE.GoesEnum
import HandS.WordsExc
import HandS.TupAny
import HandS.OwnEq
import HandS.Deep
import HandS.TupLen
import HandS.MakeKwOnly
import KE.KDictKeyed
import KE.KTupSum
import PyProof.SumAnyB
import PyProof.EnumMake
import PyProof.EqKinds
import HandS.NoneIn
import PyProof.ReprLen

import PySem.Challenge.RW_modesdown_k60_beats_made

set_option Elab.async false
set_option linter.all false
set_option maxRecDepth 100000
set_option maxHeartbeats 4000000
namespace KD
open PySem PySem.Spec PyProof.Rows L2
section
open PySem.W PySem.Calls Builtin
variable {prog : Program} {w : World} {A : Around} {E : Value → Shared → Prop} {s : Shared} {K : Frag} {x C L f : Addr} {h₀ : Heap} {m : Str → Option Value} {ox : Obj} {od : Option Obj}
theorem bool_own {Q : Value → Shared → Prop} (F : Fr h₀ L s.heap m) (X₀ : K.In h₀) (I : InstAt s.heap x ox C od) (hs : findIn K (.ref C) "__bool__" = some (some (.ref f))) (hf : isFn K (.ref f) = true)
    (h : wpAny (model prog w) A.in1.in1 (call (.ref f) [.ref x]) (PySem.W.BoolBack fun b s' => Q (.bool b) s') E s) : wpAny (model prog w) A (call (.type "bool") [.ref x]) Q E s := by
  refine callType_codes (T := "bool") (Bi := Builtin.«object.__init__») (Q₁ := fun r s₁ => ∃ b, r = .bool b ∧ Q r s₁) PySem.F.called_bool (PySem.F.typeCall_bool_1 _) PySem.F.entry_object_init ?_ ?_
  · refine codeAny_of_tree ?_
    show wpAny _ A.in1.in1 (do checkBuiltinCall "bool.__new__" ⟨[.type "bool", .ref x], []⟩; again (.builtin "bool.__new__" ⟨[.type "bool", .ref x], []⟩)) _ _ s
    refine wpAny_bind (wpAny_of_eq (PySem.F.newCall_bool_1 _) (wpAny_pure ⟨plainId_quiet (by decide +kernel) _, codeAny_builtin PySem.F.entry_bool_new ?_⟩))
    rw [Around.under_plainId (by decide +kernel) _]
    unfold Builtin.«bool.__new__»
    refine wpAny_bind (m := isType _) (wpAny_pure ?_)
    refine wpAny_bind (wpAny_of_eq PySem.F.conv_sub_bool ?_)
    refine wpAny_bind (m := someArgs _ _ _ _) (wpAny_pure ?_)
    refine wpAny_bind (truthy_K F X₀ I hs hf (wpAny_mono h (fun r s₁ hr => ?_) fun _ _ y => y))
    cases r <;> first | exact hr.elim | exact wpAny_pure ⟨_, rfl, hr⟩
  · rintro obj s₁ ⟨b, rfl, hq⟩
    exact ⟨PySem.typeIs_bool _ _, PySem.F.args_object_init_2 _ _, object_init_meets PySem.F.called_bool.init.lookup PySem.F.called_bool.made (by decide) prog w A.in1 _ s₁ ⟨PySem.typeIs_bool _ _, rfl, hq⟩⟩
end
section
variable {X : Cx} {CX : CXT} {C g : Addr} {n : Nat} {sp : Sp} {E : XK}
/-- repr, len, bool of an own instance -/
def rReprOwn (C : Addr) (sp : Sp) (E : XK) : List V → Hp → VK → Prop := fun xs H Q => ∃ a dx fs, xs = [V.ref a] ∧ H a = some (.ins C dx fs) ∧ sp [.ref a] H (fun z H' => ∃ s, z = .str s ∧ Q z H') E
def rLenOwn (C : Addr) (sp : Sp) (E : XK) : List V → Hp → VK → Prop := fun xs H Q => ∃ a dx fs, xs = [V.ref a] ∧ H a = some (.ins C dx fs) ∧ sp [.ref a] H (fun z H' => ∃ n : Int, z = .int n ∧ 0 ≤ n ∧ n < 2 ^ 63 ∧ Q z H') E
def rBoolOwn (C : Addr) (sp : Sp) (E : XK) : List V → Hp → VK → Prop := fun xs H Q => ∃ a dx fs, xs = [V.ref a] ∧ H a = some (.ins C dx fs) ∧ sp [.ref a] H (fun z H' => ∃ b, z = .bl b ∧ Q z H') E
theorem call_reprOwn (hs : PySem.W.findIn X.K (.ref C) "__repr__" = some (some (.ref g))) (hf : PySem.W.isFn X.K (.ref g) = true) (F : FnR X.prog X.w X.K X.mg X.base CX n g sp) (hr : Room (n + 1) X.A) (hx : Passes CX X E) : CallR X (.builtin "repr") (rReprOwn C sp E) := by
  intro pins s σ H xs us Q I r start
  obtain ⟨a, dx, fs, rfl, hsl, q⟩ := start
  obtain ⟨u, rfl, ru⟩ := r.one
  obtain rfl : u = Value.ref a := ru
  obtain ⟨ox, od, J, _⟩ := StX.insC_at (X := X) I (.inr ⟨dx, fs, hsl⟩)
  have low : Room n X.A.in1 := Room.in1 hr
  obtain ⟨m, hF⟩ := I.fr
  refine PySem.W.repr_K low.units0 hF I.ok.mod.kin J hs hf (wpAny_mono (wpAny_call (SlX.run_at (us := [.ref a]) (ws := [.ref a]) F low I.env0.in1 hx I (.cons rfl .nil) q)) (fun w s' z => ?_) fun _ _ x => x)
  obtain ⟨z', H', I', rz, s2, ei, qz⟩ := z
  subst ei
  obtain ⟨t, e⟩ := (show ∃ t, w = Value.str s2 t from rz)
  cases e
  exact ⟨.str s2, H', I', ⟨t, rfl⟩, qz⟩
theorem call_lenOwn (hs : PySem.W.findIn X.K (.ref C) "__len__" = some (some (.ref g))) (hf : PySem.W.isFn X.K (.ref g) = true) (F : FnR X.prog X.w X.K X.mg X.base CX n g sp) (hr : Room (n + 1) X.A) (hx : Passes CX X E) : CallR X (.builtin "len") (rLenOwn C sp E) := by
  intro pins s σ H xs us Q I r start
  obtain ⟨a, dx, fs, rfl, hsl, q⟩ := start
  obtain ⟨u, rfl, ru⟩ := r.one
  obtain rfl : u = Value.ref a := ru
  obtain ⟨ox, od, J, _⟩ := StX.insC_at (X := X) I (.inr ⟨dx, fs, hsl⟩)
  have low : Room n X.A.in1 := Room.in1 hr
  obtain ⟨m, hF⟩ := I.fr
  refine PySem.W.len_K hF I.ok.mod.kin J hs hf (wpAny_mono (wpAny_call (SlX.run_at (us := [.ref a]) (ws := [.ref a]) F low I.env0.in1 hx I (.cons rfl .nil) q)) (fun w s' z => ?_) fun _ _ x => x)
  obtain ⟨z', H', I', rz, i, ei, h0, h1, qz⟩ := z
  subst ei
  obtain ⟨t, e⟩ := (show ∃ t, w = Value.int i t from rz)
  cases e
  exact ⟨⟨h0, h1⟩, .int i, H', I'.tok _, ⟨_, rfl⟩, qz⟩
theorem call_boolOwn (hs : PySem.W.findIn X.K (.ref C) "__bool__" = some (some (.ref g))) (hf : PySem.W.isFn X.K (.ref g) = true) (F : FnR X.prog X.w X.K X.mg X.base CX n g sp) (hr : Room (n + 2) X.A) (hx : Passes CX X E) : CallR X (.type "bool") (rBoolOwn C sp E) := by
  intro pins s σ H xs us Q I r start
  obtain ⟨a, dx, fs, rfl, hsl, q⟩ := start
  obtain ⟨u, rfl, ru⟩ := r.one
  obtain rfl : u = Value.ref a := ru
  obtain ⟨ox, od, J, _⟩ := StX.insC_at (X := X) I (.inr ⟨dx, fs, hsl⟩)
  have low : Room (n + 1) X.A.in1 := Room.in1 hr
  have hr2 : Room n X.A.in1.in1 := low.in1
  obtain ⟨m, hF⟩ := I.fr
  refine bool_own hF I.ok.mod.kin J hs hf (wpAny_mono (wpAny_call (SlX.run_at (us := [.ref a]) (ws := [.ref a]) F hr2 I.env0.in1.in1 hx I (.cons rfl .nil) q)) (fun w s' z => ?_) fun _ _ x => x)
  obtain ⟨z', H', I', rz, b, ei, qz⟩ := z
  subst ei
  obtain rfl : w = Value.bool b := rz
  exact ⟨.bl b, H', I', rfl, qz⟩
end
end KD
set_option Elab.async false
set_option linter.all false
set_option maxRecDepth 100000
set_option maxHeartbeats 4000000
namespace KD
open PySem PySem.Spec PyProof.Rows L2
section
open PySem.W Builtin Builtin.Str Builtin.Int Builtin.Float PySem.Calls
def spec8 : Str := "03o"
def f8 : FormatSpec := { fill := 48, align := 61, width := some 3, type := some 111 }
def octS (n : Nat) : Str := intField' f8 false [] ((Nat.toDigits 8 n).map fun c => (if (111 : Nat) == 88 then c.toUpper else c).toNat) [] 4
theorem f8_is : parseFormatSpec spec8.cps.toList "int" 62 = .ok f8 := by kernel_rfl
theorem f8_ty : f8.type = some 111 ∧ f8.precision.isSome = false ∧ f8.noNeg0 = false ∧ f8.alt = false ∧ (decide (f8.width.getD 0 > 100000)) = false := by decide +kernel
theorem s8_asc : ((spec8.cps.toList.drop 1).any (· ≥ 128) || (spec8.cps.getD 0 0 ≥ 128 && !([60, 62, 61, 94] : List Nat).contains (spec8.cps.getD 1 0))) = false := by decide +kernel
theorem s8_ne : (spec8.length == 0) = false := by decide +kernel
theorem oct_len : ∀ n : Nat, n < 512 → (octS n).length = 3 := by
  have h : ((List.range 512).all fun n => decide ((octS n).length = 3)) = true := by decide +kernel
  exact fun n hn => of_decide_eq_true (List.all_eq_true.mp h n (List.mem_range.mpr hn))
variable {prog : Program} {w : World} {A : Around} {E : Value → Shared → Prop} {s : Shared}
theorem field_oct {n : Nat} {t : Tok} {Q : Value → Shared → Prop} (hn : n < 512) (h : ∀ t' k, Q (.str (octS n) t') { s with toks := k }) : wpAny (model prog w) A (formatField (.int (n : Nat) t) spec8) Q E s := by
  obtain ⟨h1, h2, h3, h4, h5⟩ := f8_ty
  show wpAny _ _ (holding [.int (n : Nat) t] (pyFormat (.int (n : Nat) t) spec8)) Q E s
  refine wpAny_holding ?_
  unfold pyFormat
  refine wpAny_bind (wpAny_mkStr ?_ (by show 3 ≤ sizeLine; decide))
  refine wpAny_bind (m := callSpecial? (.int (n : Nat) t) (Str.ofString "__format__") [.str spec8 s.toks]) (wpAny_callSpecial?_slot (name := Str.ofString "__format__") (PySem.typeIs_int _ _ t) PySem.F.slot_int_format ?_)
  refine wpAny_call (codeAny_call_builtin PySem.F.slot_int_format.plain PySem.F.entry_int_format (PySem.F.slot_int_format.check _ _ _ _ _ _ _ _ (PySem.typeIs_int _ _ t) (PySem.F.args_int_format_2 _ _) ?_))
  unfold Builtin.«int.__format__»
  simp only [selfAndOne, noKeywords, Int.intOfSelf, asInt?, asStr?, List.isEmpty_nil, if_true, pure_bind, bind_pure, bind_assoc, s8_ne, s8_asc, Bool.false_eq_true, if_false,
    show (Value.str spec8 s.toks == Value.none) = false from rfl]
  refine wpAny_bind (wpAny_typeNameOf (T := "str") (PySem.typeIs_str _ _ _) (by decide) fun _ => ?_)
  refine wpAny_bind (wpAny_typeNameOfCut_int ?_)
  simp only [f8_is, h1, Option.getD_some]
  rw [if_pos (by decide)]
  obtain ⟨f, hf⟩ : ∃ f, f = f8 := ⟨_, rfl⟩
  rw [← hf] at h2 h3 h4 h5 ⊢
  show wpAny _ _ (if _ then _ else _) _ _ _
  rw [if_neg (by rw [h2]; decide)]
  show wpAny _ _ (if _ then _ else _) _ _ _
  rw [if_neg (by rw [h3]; decide)]
  show wpAny _ _ (if _ then _ else _) _ _ _
  rw [if_neg (by decide)]
  show wpAny _ _ (if _ then _ else _) _ _ _
  rw [if_neg (by decide)]
  show wpAny _ _ (if _ then _ else _) _ _ _
  rw [if_neg (of_decide_eq_false h5)]
  show wpAny _ _ (retStr _) _ _ _
  subst hf
  refine KXf.ret_text (T := octS n) ?_ ?_ fun t' k => ?_
  · rw [decide_eq_false (show ¬ (n : Int) < 0 by omega)]
    rfl
  · rw [decide_eq_false (show ¬ (n : Int) < 0 by omega)]
    exact Nat.le_trans (Nat.le_of_eq (oct_len n hn)) (by decide)
  · exact wpAny_bind (wpAny_isInstance (PySem.typeIs_str _ _ _) isSubtype_str_str (wpAny_pure (h _ _)))
end
section
variable {X : Cx}
def tOct (te : TE) : TE := fun σ H Q => te σ H fun x H1 => ∃ n : Nat, x = .int (n : Nat) ∧ n < 512 ∧ Q (.str (octS n)) H1
theorem pe_fmt8 {e : Expr} {te : TE} {pos p1 p2 : Pos} {k : Nat} (he : PE X e te) : PE X (.FormattedValue e (-1) (some (.JoinedStr [.Constant (.str "03o") k p1] p2)) pos) (tOct te) := by
  refine ⟨fun pins s σ H Q I h => ?_⟩
  refine wpAny_FormattedValue_spec (thn (he.run pins s σ H _ I h) fun v s1 ⟨x, H1, I1, r1, n, ex, hn, q⟩ => ?_)
  subst ex
  obtain ⟨t, rfl⟩ := r1
  have hs : PE X (.JoinedStr [.Constant (.str "03o") k p1] p2) (tC (.str "03o")) := pe_joined1 pe_str
  refine thn (hs.run pins s1 σ H1 (fun y H2 => y = .str "03o" ∧ H2 = H1) I1 ⟨rfl, rfl⟩) fun r s2 ⟨y, H2, I2, ry, ey, eH⟩ => ?_
  subst ey eH
  obtain ⟨t2, rfl⟩ := ry
  exact ⟨_, t2, rfl, field_oct hn fun t' k => ⟨.str (octS n), H2, I2.tok _, ⟨_, rfl⟩, q⟩⟩
/-- x op y, x an own instance -/
def rOwnB (K : PySem.W.Frag) (C : Addr) (sp : Sp) (E : XK) : R2 := fun x y H Q => ∃ (p dx : Addr) (fs : List (Str × V)) (t : Value), x = .ref p ∧ H p = some (.ins C dx fs) ∧ TyX K H y t ∧ PySem.W.notFirst K C t = true ∧ sp [x, y] H Q E
theorem op_ownB {CX : CXT} {C g : Addr} {n : Nat} {sp : Sp} {E : XK} {op : CmpOp} (hop : ∀ a b, compareOp op a b = richCompare op a b) (hs : PySem.W.findIn X.K (.ref C) (cmpInfo op).2.1 = some (some (.ref g))) (hf : PySem.W.isFn X.K (.ref g) = true)
    (F : FnR X.prog X.w X.K X.mg X.base CX n g sp) (room : Room n X.A) (hx : Passes CX X E) : OpR X (compareOp op) (rOwnB X.K C sp E) := by
  intro pins s σ H x y v u Q I rx ry told
  obtain ⟨p, dx, fs, t, rfl, hp, ty, nf, want⟩ := told
  obtain rfl : v = Value.ref p := rx
  obtain ⟨o1, d1, J1, _⟩ := StX.insC_at (X := X) I (.inr ⟨dx, fs, hp⟩)
  obtain ⟨Pp, Z, hpp, _⟩ := kit_of I ry ty
  obtain ⟨m, hF⟩ := I.fr
  rw [hop]
  refine PySem.W.cmp_K (op := op) (tb := t) room.units0 hF I.ok.mod.kin J1 (Z.ty _ _ I.kIn hpp) nf hs hf (wpAny_mono (wpAny_call (run_fnR (us := [.ref p, u]) (vs := [.ref p, y]) F room hx I (.cons rfl (.cons ry .nil)) want)) (fun r s' got => ?_) fun _ _ same => same)
  obtain ⟨z, H', I', rz, end_⟩ := got
  exact SlX.cmpback rz ⟨z, H', I', rz, end_⟩
theorem mt_scount : MtR X "str.count" (fun x xs H Q => ∃ a b, x = .str a ∧ xs = [.str b] ∧ Q (.int (Txt.count a b)) H) := by
  intro pins s σ H x xs v us Q I rx rxs h
  obtain ⟨a, b, rfl, rfl, q⟩ := h
  obtain ⟨t, rfl⟩ := rx
  obtain ⟨u, rfl, ru⟩ := rxs.one
  obtain ⟨t2, rfl⟩ := ru
  exact PySem.W.KXw.count rfl fun t' k => ⟨.int _, H, I.tok _, ⟨_, rfl⟩, q⟩
end
end KD
set_option Elab.async false
set_option linter.all false
set_option maxRecDepth 100000
set_option maxHeartbeats 4000000
namespace KD
open PySem PySem.Spec PyProof.Rows L2 LamX
/-! ### defs that are run where no object is being shown -/
def RunAt (P : Program) (w : World) (K : PySem.W.Frag) (mg : Str → Option Value) (base : Heap) (A : Around) (f : Addr) (fd : FuncData) (ps : List Str) (sp : Sp) : Prop :=
  ∀ (outer : List Env) (s : Shared) (H : Hp) (args : Args) (us : List Value) (vs : List V) (Q : VK) (E : XK), Env0 P w K mg base A outer s H → BindsTo s fd args (ps.zip us) → Vals vs us → sp vs H Q E →
    codeAny (model P w) A (.call (.ref f) args) (CR CX0 outer P w H s Q E) s
structure FnG (P : Program) (w : World) (K : PySem.W.Frag) (mg : Str → Option Value) (base : Heap) (k : Nat) (f : Addr) (fd : FuncData) (ps : List Str) (sp : Sp) : Prop where
  len : ∀ vs H Q E, sp vs H Q E → vs.length = ps.length
  run : ∀ A : Around, A.guards = some [] → Room k A → RunAt P w K mg base A f fd ps sp
theorem fnG_of {P : Program} {w : World} {K : PySem.W.Frag} {mg : Str → Option Value} {base : Heap} {k : Nat} {x qual : Str} {st : Stmt} {f : Addr} {oc kV doc pm cdv ct : Value} {an od : Option Addr} {osl : Array (Option Value)} {N ps : List Str} {sp : Sp}
    (at_ : K.lookup f = some ⟨oc, od, .func (PySem.W.fnOf x qual (defArgs st) (defBody st) (defScope st) .none kV doc pm an cdv ct), osl⟩) (code : PySem.W.codeIn K cdv qual = true) (S : FnScope N ps (defScope st)) (len : ∀ vs H Q E, sp vs H Q E → vs.length = ps.length)
    (body : ∀ (A : Around) (outer : List Env) (s : Shared) (H : Hp) (vs : List V) (Q : VK) (E : XK), A.guards = some [] → Room k (A.deeper (envOfC qual (defScope st) s.heap.objs.size f cdv)) → sp vs H Q E →
      ∃ t, PSs (cxOf CX0 P w K mg base N qual (defScope st) f cdv A outer s H E).nox (defBody st) t ∧ t { nx := fun _ H' => Q .non H', rt := Q } (start N vs) H) :
    FnG P w K mg base (k + 1) f (PySem.W.fnOf x qual (defArgs st) (defBody st) (defScope st) .none kV doc pm an cdv ct) ps sp := by
  refine ⟨len, fun A gd room outer s H args us vs Q E e0 bind vals want => ?_⟩
  have many := len _ _ _ _ want
  have inK : K.In s.heap := e0.mod.kin.keeps fun b o q => (e0.bs b o q).1
  have free : s.heap.NoLimit := e0.mod.nolimit.keeps fun b o q => (e0.bs b o q).1
  have kinds : ∀ y ∈ ps.zip us, (defScope st).names.lookup y.1 = some .local ∨ ((defScope st).names.lookup y.1 = some .cell ∧ ((cellsFrom (s.heap.objs.size + 1) (defScope st).names []).lookup y.1).isSome = true) := fun y hy =>
    (S.par y.1 (List.of_mem_zip hy).1).imp id fun q => ⟨q, PySem.W.cellsFrom_some _ _ _ (.inl q)⟩
  refine codeAny_call_function room.depth (inK _ _ at_) rfl S.co S.gen rfl (PySem.W.codeRec_of inK code) (bind _ _ _ _ ?_)
  refine wpAny_newFunctionEnv_cells S.kind kinds fun env he s1 call => ?_
  subst he
  obtain ⟨t, does, reads⟩ := body A outer s H vs Q E gd (room.deeper _) want
  refine ⟨free.keeps call.toInCall.keep, codeAny_func (wpAny_mono (does.nox.run [] s1 (start N vs) H _ (inv_start S room.hd e0 many vals call) reads) (fun fl s' ends => ?_) fun _ _ q => q)⟩
  cases fl with
  | ret u => exact let ⟨v, σ', H', J, rv, q⟩ := ends; ⟨v, H', J.os, J.bare, J.base, J.hok, rv, q⟩
  | next => exact let ⟨σ', H', J, q⟩ := ends; ⟨.non, H', J.os, J.bare, J.base, J.hok, rfl, q⟩
  | brk => exact let ⟨_, _, _, q⟩ := ends; False.elim q
  | cont => exact let ⟨_, _, _, q⟩ := ends; False.elim q
section
variable {X : Cx} {k : Nat} {f : Addr} {fd : FuncData} {ps : List Str} {sp : Sp} {E : XK} {x : Str} {e : Expr} {es : List Expr} {t : TA} {p pos : Pos}
/-- a call of such a def, where no object is being shown -/
theorem pe_callG (F : FnG X.prog X.w X.K X.mg X.base k f fd ps sp) (gd : X.A.guards = some []) (room : Room k X.A) (hg : Gl X x) (hm : X.mg x = some (.ref f)) (kp : PySem.W.keepIn X.K (.ref f) = true) (hb : Binds X.K fd ps [])
    (ha : PA X (e :: es) t) (nodb : (x == ("__debug__" : Str)) = false := by decide) (flat : starEach (e :: es) X.env = (false, eval e X.env) :: starEach es X.env := by rfl) (plain : (backTo pos (starEach es X.env)).any (·.1) = false := by rfl) :
    PE X (.Call (.Name x p) (e :: es) [] pos) (tCall sp [] E t) := by
  refine ⟨fun pins s σ H Q I h => ?_⟩
  refine wpAny_Call_Name_kw (ld_glob I hg hm ?_ nodb)
  refine PySem.W.callWith_K (h₀ := X.base) I.ok.mod.kin kp (thn (ha.run pos pins s σ H _ I h) fun us s1 ⟨vs, H1, J, r, q⟩ => ⟨J.kIn, ?_⟩) flat plain
  have q : sp vs H1 Q E := by rw [← List.append_nil vs]; exact q
  have many : us.length = ps.length := by rw [← r.length]; exact F.len _ _ _ _ q
  have bind := hb s1 us J.kIn (by rw [List.append_nil]; exact many)
  rw [List.append_nil] at bind
  refine wpAny_call (codeAny_mono (F.run X.A gd room X.stack s1 H1 ⟨us, []⟩ us vs Q E J.env0 bind r q) fun r s' got => ?_)
  match r, got with
  | .error _, got => exact False.elim got
  | .ok (.ret _), got => exact J.after got
  | .ok .next, got => exact False.elim got
  | .ok .brk, got => exact False.elim got
  | .ok .cont, got => exact False.elim got
/-! repr of what can be read, where no object is being shown -/
inductive RepV (K : PySem.W.Frag) (H : Hp) : V → Str → Prop
  | int {i : Int} (h : i.natAbs.log2 < 1920) : RepV K H (.int i) (toString i)
  | non : RepV K H .non "None"
  | bl (b : Bool) : RepV K H (.bl b) (if b then "True" else "False")
  | str {z : Str} (h : (reprText z).length ≤ sizeLine) : RepV K H (.str z) (reprText z)
  | obj {p : Addr} {d : PyData} (hd : Dp K H (.ref p) d) (h1 : d.showable = true) (h2 : d.hasDict = false) (h3 : d.depth ≤ 60) (h4 : d.shown.length ≤ sizeLine) : RepV K H (.ref p) d.shown
def rReprV (K : PySem.W.Frag) : List V → Hp → VK → Prop := fun xs H Q => ∃ (x : V) (s : Str), xs = [x] ∧ RepV K H x s ∧ Q (.str s) H
theorem call_reprV (gd : X.A.guards = some []) (hu : X.A.units + 64 < cLine) : CallR X (.builtin "repr") (rReprV X.K) := by
  intro pins s σ H xs us Q I r start
  obtain ⟨v, z, rfl, rep, q⟩ := start
  obtain ⟨u, rfl, ru⟩ := r.one
  cases rep with
  | int h =>
    obtain ⟨t, rfl⟩ := ru
    exact PySem.P.repr_of_int h ⟨.str _, H, I.tok _, ⟨_, rfl⟩, q⟩
  | non =>
    obtain rfl : u = Value.none := ru
    exact PySem.P.repr_of_none ⟨.str _, H, I.tok _, ⟨_, rfl⟩, q⟩
  | bl b =>
    obtain rfl : u = Value.bool b := ru
    exact PySem.P.repr_of_bool ⟨.str _, H, I.tok _, ⟨_, rfl⟩, q⟩
  | str h =>
    obtain ⟨t, rfl⟩ := ru
    exact PySem.P.repr_of_str ⟨.str _, H, I.tok _, ⟨_, rfl⟩, q⟩ h
  | @obj p d hd h1 h2 h3 h4 =>
    obtain ⟨as, reads⟩ := Dp.reads I d (.ref p) u hd ru
    obtain rfl : u = Value.ref p := ru
    exact repr_of_reads' reads h1 (fun h => by rw [h2] at h; cases h) gd (by omega) (fun _ _ e => e) (fun g t tk rest => ⟨.str d.shown, H, I.kept (t' := tk) rest, ⟨t, rfl⟩, q⟩) h4
end
/-! ### a law with lambdas, run at the top alone -/
def tab0 : Obj := { cls := .none, data := .fields #[] }
def fz (vs : List Value) (ns : List Int) : HO := .frz { cls := .type "list", data := .seq vs.toArray } (.lst (ns.map V.int))
/-- what the law is told: the empty tables, and the script, if it is none of the written objects -/
structure Told0 (P : Program) (w : World) (K : PySem.W.Frag) (h : Heap) (a : Addr) (ns : List Int) (Ts : List Addr) (H : Hp) : Prop where
  tabs : ∀ b ∈ Ts, H b = some (.tbl #[])
  only : ∀ b, b ∉ Ts → H b = none ∨ ∃ ob xs, H b = some (.frz ob (.lst xs))
  seq : SqL K H a (ns.map V.int)
  hok : HOk P w H h
  here : ∀ b, H b ≠ none → b = a ∨ b ∈ Ts
  lone : H a ≠ none → K.lookup a = none
theorem told0 {P : Program} {w : World} {K : PySem.W.Frag} {h : Heap} {a : Addr} {vs : List Value} {ns : List Int} {Ts : List Addr} (inK : K.In h) (ha : h.get? a = some { cls := .type "list", data := .seq vs.toArray }) (hi : IntsAre vs ns) (hl : ns.length ≤ sizeLine) (tb : ∀ b ∈ Ts, h.get? b = some tab0) : ∃ H : Hp, Told0 P w K h a ns Ts H := by
  have rv := vals_ints hi
  have off : a ∉ Ts := fun z => by
    have q := (tb a z).symm.trans ha
    exact nomatch congrArg Obj.data (Option.some.inj q)
  cases hk : K.lookup a with
  | some o =>
    obtain rfl : o = { cls := .type "list", data := .seq vs.toArray } := Option.some.inj ((inK a o hk).symm.trans ha)
    refine ⟨fun b => if b ∈ Ts then some (.tbl #[]) else none, fun b m => if_pos m, fun b m => .inl (if_neg m), .inr ⟨_, vs.toArray, _, hk, rfl, rfl, rfl, by rw [List.size_toArray, hi.length]; exact hl, by simpa using rv⟩, fun b u z => ?_, fun b z => .inr (Classical.byContradiction fun n => z (if_neg n)), fun z => absurd (if_neg off) z⟩
    by_cases m : b ∈ Ts
    · obtain rfl : HO.tbl #[] = u := Option.some.inj ((if_pos m).symm.trans z)
      exact tb b m
    · exact nomatch (if_neg m).symm.trans z
  | none =>
    have ifa : (if a ∈ Ts then some (HO.tbl #[]) else if a = a then some (fz vs ns) else none) = some (fz vs ns) := (if_neg off).trans (if_pos rfl)
    refine ⟨fun b => if b ∈ Ts then some (.tbl #[]) else if b = a then some (fz vs ns) else none, fun b m => if_pos m, fun b m => ?_, .inl (.inr ⟨_, ifa⟩), fun b u z => ?_, fun b z => ?_, fun _ => hk⟩
    · by_cases e : b = a
      · exact .inr ⟨_, _, (if_neg m).trans (if_pos e)⟩
      · exact .inl ((if_neg m).trans (if_neg e))
    · by_cases m : b ∈ Ts
      · obtain rfl : HO.tbl #[] = u := Option.some.inj ((if_pos m).symm.trans z)
        exact tb b m
      · have z2 := (if_neg m).symm.trans z
        by_cases e : b = a
        · obtain rfl : fz vs ns = u := Option.some.inj ((if_pos e).symm.trans z2)
          have few : (ns.map V.int).length ≤ sizeLine := by rw [List.length_map]; exact hl
          rw [e]
          exact ⟨ha, few, vs, _, rv, ha⟩
        · exact nomatch (if_neg e).symm.trans z2
    · by_cases m : b ∈ Ts
      · exact .inr m
      · by_cases e : b = a
        · exact .inl e
        · exact absurd ((if_neg m).trans (if_neg e)) z
theorem top_tabs {P : Program} {w : World} {K : PySem.W.Frag} {mg mb : Str → Option Value} {fa a : Addr} {fd : FuncData} {x : Str} {sp : Sp} {s₁ : Shared} {vs : List Value} {ns : List Int} {cs : List (Addr × Addr)} (inK : K.In s₁.heap) (names : s₁.heap.Ns mainGlobals mg) (hb : s₁.heap.Ns builtinsNs mb)
    (boot : ∀ x : Str, x ≠ "__name__" → mb x = bootBuiltins x) (free : s₁.heap.NoLimit) (young : s₁.gens = #[]) (ha : s₁.heap.get? a = some { cls := .type "list", data := .seq vs.toArray }) (hi : IntsAre vs ns) (hl : ns.length ≤ sizeLine)
    (tb : ∀ p ∈ cs, s₁.heap.get? p.2 = some tab0) (away : ∀ p ∈ cs, K.lookup p.2 = none) (hd : ∀ p ∈ cs, PySem.W.codeHdIn K p.1 p.2 = true)
    (main : ∃ (bm : Addr) (ob : Obj), mg "__builtins__" = some (.ref bm) ∧ bm ≠ builtinsNs ∧ s₁.heap.get? bm = some ob ∧ ob.cls = .type "module" ∧ ob.dict = some builtinsNs ∧ ob.data = .plain)
    (F : ∀ base : Heap, K.In base → base.Ns mainGlobals mg → (∀ p ∈ cs, TabB base mg p.1 p.2) → RunAt P w K mg base callerA fa fd [x] sp) (bind : ∀ (s : Shared) (u : Value), BindsTo s fd ⟨[u], []⟩ [(x, u)])
    (want : ∀ H : Hp, (∀ p ∈ cs, H p.2 = some (.tbl #[])) → SqL K H a (ns.map V.int) → sp [.ref a] H (fun v _ => v = .bl true) fun _ _ _ => False) :
    codeAny (model P w) callerA (.call (.ref fa) ⟨[.ref a], []⟩) (fun r s' => r = .ok (.ret (.bool true)) ∧ OldK s₁.heap s'.heap ∧ s'.os = s₁.os ∧ AllBare s'.gens) s₁ := by
  have tb' : ∀ b ∈ cs.map (·.2), s₁.heap.get? b = some tab0 := fun b m => by
    obtain ⟨p, hp, rfl⟩ := List.mem_map.mp m
    exact tb p hp
  obtain ⟨H, told⟩ := told0 (P := P) (w := w) inK ha hi hl tb'
  have in_ : ∀ p ∈ cs, p.2 ∈ cs.map (·.2) := fun p hp => List.mem_map.mpr ⟨p, hp, rfl⟩
  -- what is neither a list nor a table stays in the base
  have out : ∀ {b : Addr} {o : Obj}, s₁.heap.get? b = some o → (∀ it n, o.data ≠ .seq it n) → o.data ≠ .fields #[] → (hidT s₁.heap H).get? b = some o := fun {b o} g n1 n2 => hidT_get g (Classical.byContradiction fun z => by
    rcases told.here b z with rfl | m
    · rw [ha] at g
      cases g
      exact n1 _ _ rfl
    · rw [tb' b m] at g
      cases g
      exact n2 rfl)
  have ns' : ∀ {b : Addr} {m : Str → Option Value}, s₁.heap.Ns b m → (hidT s₁.heap H).Ns b m := fun ⟨o, es, ep, g, d, r⟩ => ⟨o, es, ep, out g (fun _ _ z => nomatch d.symm.trans z) (fun z => nomatch d.symm.trans z), d, r⟩
  have inB : K.In (hidT s₁.heap H) := fun b o q => hidT_get (inK b o q) (Classical.byContradiction fun z => by
    rcases told.here b z with rfl | m
    · rw [told.lone z] at q
      cases q
    · obtain ⟨p, hp, rfl⟩ := List.mem_map.mp m
      rw [away p hp] at q
      cases q)
  have free' : (hidT s₁.heap H).NoLimit := let ⟨mc, h1, h2⟩ := free; ⟨mc, ns' h1, h2⟩
  have glob : ∀ {b : Addr} {o : Obj}, s₁.heap.get? b = some o → (∀ es n, o.data ≠ .dict es n) → mainGlobals ≠ b := fun g n z => by
    obtain ⟨o, es, ep, g2, d, _⟩ := names
    rw [z, g] at g2
    cases g2
    exact n _ _ d
  have tabs : ∀ p ∈ cs, TabB (hidT s₁.heap H) mg p.1 p.2 := fun p hp => by
    obtain ⟨bm, ob, m1, m2, m3, m4, m5, m6⟩ := main
    refine ⟨PySem.W.codeHd_of_K inB (hd p hp), ⟨bm, ob, m1, m2, (glob m3 fun _ _ z => nomatch m6.symm.trans z).symm, fun z => ?_, out m3 (fun _ _ z => nomatch m6.symm.trans z) (fun z => nomatch m6.symm.trans z), m4, m5, m6⟩, glob (tb p hp) fun _ _ z => nomatch z⟩
    rw [z, tb p hp] at m3
    cases m3
    cases m6
  have e0 : Env0 P w K mg (hidT s₁.heap H) callerA [] s₁ H := ⟨rfl, ⟨inB, ns' names, ⟨mb, ns' hb, boot⟩, free'⟩, fun b o q => of_hidT q, Nat.le_of_eq (hidT_size _ _), trivial, fun b m => absurd (show b ∈ ([] : List Addr) from m) List.not_mem_nil, told.hok, .of_eq young⟩
  refine codeAny_mono (F _ inB (ns' names) tabs [] s₁ H ⟨[.ref a], []⟩ [.ref a] [.ref a] _ _ e0 (bind s₁ (.ref a)) (.cons rfl .nil) (want H (fun p hp => told.tabs _ (in_ p hp)) told.seq)) fun r s' got => ?_
  match r, got with
  | .error e, got => exact False.elim got
  | .ok .next, got => exact False.elim got
  | .ok .brk, got => exact False.elim got
  | .ok .cont, got => exact False.elim got
  | .ok (.ret u), ⟨v, H', os, bare, un, hok', rv, q⟩ =>
    obtain rfl : v = .bl true := q
    obtain rfl : u = Value.bool true := rv
    have grew : ∀ p ∈ cs, ∃ more : Array Value, s'.heap.get? p.2 = some { cls := .none, data := .fields more } := fun p hp =>
      let ⟨more, z⟩ := un.tbls p.2 #[] (told.tabs _ (in_ p hp)); ⟨_, hok' p.2 _ z⟩
    have same : ∀ b o, b ∉ cs.map (·.2) → s₁.heap.get? b = some o → s'.heap.get? b = some o := fun b o n g => by
      rcases told.only b n with z | ⟨ob, xs, z⟩
      · exact un.keep b o g z (fun m => absurd (show b ∈ ([] : List Addr) from m) List.not_mem_nil) List.not_mem_nil
      · obtain ⟨e1, _⟩ := told.hok b _ z
        obtain ⟨e2, _⟩ := hok' b _ (un.frzs b ob _ z)
        rw [g] at e1
        cases e1
        exact e2
    refine ⟨rfl, ⟨fun b o g => ?_, fun b o g => ?_⟩, os, bare⟩
    · by_cases m : b ∈ cs.map (·.2)
      · obtain ⟨p, hp, rfl⟩ := List.mem_map.mp m
        obtain ⟨more, gm⟩ := grew p hp
        have hc := PySem.W.codeHd_of_K inK (hd p hp)
        obtain rfl : tab0 = o := Option.some.inj ((tb p hp).symm.trans g)
        exact .inr (.inl ⟨(hc.tab g).isCodeTable, rfl, #[], more, rfl, by rw [gm]; congr; exact (Array.empty_append).symm⟩)
      · exact .inl (same b o m g)
    · by_cases m : b ∈ cs.map (·.2)
      · obtain ⟨p, hp, rfl⟩ := List.mem_map.mp m
        obtain ⟨more, gm⟩ := grew p hp
        exact ⟨_, gm⟩
      · exact ⟨o, same b o m g⟩
def LawTop (l : PySem.W.OpenLaw) (w : World) (K : PySem.W.Frag) (x : Str) (mg : Str → Option Value) (fa : Addr) (h : Heap) : Prop :=
  ∃ (fd : FuncData) (cs : List (Addr × Addr)) (sp : Sp), (∀ p ∈ cs, h.get? p.2 = some tab0) ∧ (∀ p ∈ cs, K.lookup p.2 = none) ∧ (∀ p ∈ cs, PySem.W.codeHdIn K p.1 p.2 = true) ∧ (∀ (s : Shared) (u : Value), BindsTo s fd ⟨[u], []⟩ [(x, u)]) ∧
    (∀ (H : Hp) (a : Addr) (ns : List Int), ns.length ≤ 63 → (∀ p ∈ cs, H p.2 = some (.tbl #[])) → SqL K H a (ns.map V.int) → sp [.ref a] H (fun v _ => v = .bl true) fun _ _ _ => False) ∧
    ∀ base : Heap, K.In base → base.Ns mainGlobals mg → (∀ p ∈ cs, TabB base mg p.1 p.2) → RunAt l.prog w K mg base callerA fa fd [x] sp
theorem walk_tabs {l : PySem.W.OpenLaw} {q : Program} {loose : List Str} {XP : (Str → Option Value) → Heap → Prop} {YP : World → Heap → Prop} {d : DefRec} {K : Params → PySem.W.Frag} {x : Str} (many : l.most = some 63) (plain : d.params.defaults = []) (inK : ∀ (w : World) (h : Heap), YP w h → (K w.params).In h)
    (F : ∀ (w : World) (mg : Str → Option Value) (fa : Addr) (h : Heap), YP w h → (K w.params).In h → h.Ns mainGlobals mg → mg d.name = some (.ref fa) → LawTop l w (K w.params) x mg fa h) :
    PySem.W.WalkO q loose XP YP l.row.toRowW d [] (fun f vs => PySem.call f vs) :=
  Att.attach_callB many plain fun w s₀ s₁ mg mb fa o pm cd doc a vs ns G Y ho hd hcd hmg hobj hints hlen _ hg => by
    obtain ⟨fd, cs, sp, h1, h2, h3, h4, h5, h6⟩ := F w mg fa _ Y (inK w _ Y) G.T.g hmg
    exact top_tabs (inK w _ Y) G.T.g G.T.b G.T.builtins G.T.nolimit hg hobj hints (Nat.le_trans hlen (by decide)) h1 h2 h3 G.T.bmain h6 h4 fun H tb seq => h5 H a ns hlen tb seq
end KD
set_option Elab.async false
set_option linter.all false
set_option maxRecDepth 100000
set_option maxHeartbeats 4000000
namespace KErr
open PySem PySem.Spec PyProof.Rows L2 Evl
/-! ### a caught error that a name keeps -/
/-- at a stands the object oe -/
def errO (a : Addr) (oe : Obj) : HO := .ext fun h => h.get? a = some oe
/-- at a stands an error of the class D, its dict at dd with the fields fs -/
def ErrAt (H : Hp) (a D dd : Addr) (fs : List (Str × V)) : Prop := ∃ oe : Obj, H a = some (errO a oe) ∧ oe.cls = .ref D ∧ oe.dict = some dd ∧ (∃ vs, oe.data = .fields vs) ∧ H dd = some (.xd fs)
theorem ErrAt.mono {H H' : Hp} {a D dd : Addr} {fs : List (Str × V)} (h : ErrAt H a D dd fs) (e : Ex H H') : ErrAt H' a D dd fs := let ⟨oe, h1, h2, h3, h4, h5⟩ := h; ⟨oe, e _ _ h1, h2, h3, h4, e _ _ h5⟩
section
variable {X : Cx} {a D dd : Addr} {pins : List (Addr × Obj)} {σ : L2.St} {H : Hp} {s : Shared} {e : Expr} {te : TE} {pos : Pos} {fs : List (Str × V)}
theorem ErrAt.inst (I : Inv X pins σ H s) (h : ErrAt H a D dd fs) : ∃ oe od mA, PySem.W.InstAt s.heap a oe D (some od) ∧ s.heap.get? dd = some od ∧ s.heap.Ns1 dd mA ∧ ∀ f, RelO (fs.lookup f) (mA f) := by
  obtain ⟨oe, ha, hc, hd, ⟨vs, hv⟩, hx⟩ := h
  have at_ : s.heap.get? a = some oe := (show ObjOk X.prog X.w H s.heap a (errO a oe) from I.hok a _ ha).1
  obtain ⟨mA, ns, rel⟩ := (show ObjOk X.prog X.w H s.heap dd (.xd fs) from I.hok dd _ hx)
  obtain ⟨od, ho, _⟩ := lookIn_ns ns
  exact ⟨oe, od, mA, ⟨at_, hc, by unfold PySem.W.notCls; rw [hv] <;> rfl, by rw [hd]; exact ho⟩, ho, ns, rel⟩
/-- isinstance(error, class) -/
def rIsE (K : PySem.W.Frag) (D : Addr) : List V → Hp → VK → Prop := fun xs H Q => ∃ (a dd : Addr) (fs : List (Str × V)) (c : V) (cv : Value) (b : Bool), xs = [.ref a, c] ∧ (∀ u, RelV c u → u = cv) ∧ ErrAt H a D dd fs ∧ PySem.W.kitOne K (.ref D) cv = some b ∧ Q (.bl b) H
theorem call_isE (C : ExcC X.K D) (hcl : (PySem.W.clsIn X.K D).isSome = true) : CallR X (.builtin "isinstance") (rIsE X.K D) := by
  intro pins s σ H xs us Q I r h
  obtain ⟨a, dd, fs, c, cv, b, rfl, hcv, hE, e, q⟩ := h
  match us, r with
  | [_, _], .cons rx (.cons rt .nil) =>
    obtain rfl := (show _ = Value.ref a from rx)
    obtain rfl := hcv _ rt
    obtain ⟨oe, od, mA, J, _⟩ := hE.inst I
    exact PySem.W.kia_one (PySem.W.kitx_exc hcl C.hg C.hk C.hs C.ha C.hn C.ht C.hm) I.kIn J e (fun z => nomatch z) fun tk => ⟨.bl b, H, I.kept (t' := tk) fun _ _ z => z, rfl, q⟩
/-- error.field -/
def tErrF (D : Addr) (f : Str) (te : TE) : TE := fun σ H Q => te σ H fun x H1 => ∃ (a dd : Addr) (fs : List (Str × V)) (v : V), x = .ref a ∧ ErrAt H1 a D dd fs ∧ fs.lookup f = some v ∧ Q v H1
theorem pe_errF {f : Str} (C : ExcC X.K D) (no : PySem.W.findIn X.K (.ref D) f = some none) (he : PE X e te) (hb : attributeBase e f X.env (eval e X.env) = eval e X.env := by rfl) : PE X (.Attribute e f pos) (tErrF D f te) where
  run := fun pins s σ H Q I h => by
    refine attr_of hb (thn (he.run pins s σ H _ I h) fun u s1 got => ?_)
    obtain ⟨x, H1, I1, rx, a, dd, fs, v, rfl, hE, l, q⟩ := got
    obtain rfl : u = Value.ref a := rx
    obtain ⟨oe, od, mA, J, ho, ns, rel⟩ := hE.inst I1
    obtain ⟨od', ho', looks⟩ := lookIn_ns ns
    obtain rfl : od = od' := Option.some.inj (ho.symm.trans ho')
    obtain ⟨w', hw, rw'⟩ := RelO.some_of (v := v) (o := mA f) (by rw [← l]; exact rel f)
    exact HandSPX.exc_get I1.kIn J C.hg C.hk C.hs (PySem.W.findObj_own C.hd no rfl (by rw [looks, hw])) (handed_of rw') ⟨v, H1, I1.tok _, rw', q⟩
end
/-- an object that nothing knew is known from now on -/
theorem inv_track {X : Cx} {pins : List (Addr × Obj)} {σ : L2.St} {H : Hp} {s : Shared} {a : Addr} {oe : Obj} (I : Inv X pins σ H s) (ha : s.heap.get? a = some oe) (na : H a = none) (n0 : X.s_0.heap.get? a = none) (np : ∀ p ∈ X.pn ++ pins, p.1 ≠ a) (nl : X.env.locals ≠ a) (nc : ∀ x c, X.env.cells.lookup x = some c → c ≠ a) : Inv X pins σ (upd H a (errO a oe)) s where
  ok := I.ok
  os := I.os
  bare := I.bare
  base := {
    keep := I.base.keep
    slot := I.base.slot
    free := fun b o g n x => by
      have ne : b ≠ a := fun z => by rw [z, n0] at g; cases g
      rw [upd_ne ne]
      exact I.base.free b o g n x
    there := I.base.there
    tups := fun b xs q => by
      have t := I.base.tups b xs q
      rw [upd_ne (ne_of_none t na)]
      exact t
    frzs := fun b o u q => by
      have t := I.base.frzs b o u q
      rw [upd_ne (ne_of_none t na)]
      exact t
    tbls := fun b ps q => by
      obtain ⟨more, t⟩ := I.base.tbls b ps q
      exact ⟨more, by rw [upd_ne (ne_of_none t na)]; exact t⟩ }
  loc := I.loc
  cell := I.cell
  free := by rw [upd_ne nl]; exact I.free
  freeC := fun x c l => by rw [upd_ne (nc x c l)]; exact I.freeC x c l
  pin := fun p m => by
    obtain ⟨h1, h2, h3⟩ := I.pin p m
    exact ⟨h1, by rw [upd_ne (np p m)]; exact h2, h3⟩
  hok := fun b u q => by
    by_cases e : b = a
    · subst e
      rw [upd_same] at q
      cases q
      exact ⟨ha, ⟨oe, ha⟩, fun h1 h2 p k => k _ p⟩
    · rw [upd_ne e] at q
      exact (I.hok b u q).stay (fun _ _ _ z => z) (fun c z => by rw [upd_ne (ne_of_none z na)]; exact z) (fun c xs z => by rw [upd_ne (ne_of_none z na)]; exact z)
  len := I.len
end KErr
set_option Elab.async false
set_option linter.all false
set_option maxRecDepth 100000
set_option maxHeartbeats 4000000
namespace KErr
open PySem PySem.Spec PyProof.Rows L2 Evl
/-- as wAs, but the error is known behind the suite -/
def wKeep (K : PySem.W.Frag) (c : Value) (i : Nat) (ts : Addr → Value → Option Addr → TS) (D : Ends) : WX := fun cls d σ H =>
  PySem.W.exmOne K cls c = some true ∧ ∀ (a : Addr) (oe : Obj), H a = none → Zc cls d oe → (∃ vs, oe.data = .fields vs) →
    ts a cls d { nx := fun σ' H' => D.nx (σ'.set i none) (upd H' a (errO a oe)), rt := fun _ _ => False, bk := fun _ _ => False, ct := fun _ _ => False } (σ.set i (some (.ref a))) H
section
variable {X : Cx} {x n : Str} {c : Value} {i : Nat} {body rest : List Stmt} {st₀ : Stmt} {np q1 q2 : Pos} {tb : WX → TS} {ts : Addr → Value → Option Addr → TS}
theorem ps_try_keep (stk : X.stack = X.env :: X.outer) (frm : X.env.frame = some X.env.locals) (noex : X.ex = []) (nd : X.N.Nodup) (hi : X.N[i]? = some n) (loc : X.env.kindOf n = some .local) (nms : Names X x c)
    (bodyOk : ∀ (W : WX) (pn : List (Addr × Obj)) (xe : Value → Shared → Prop), Takes (X.tr pn xe) W → PassesOwn (model X.prog X.w) X.A X.env xe → PSs (X.tr pn xe) body (tb W))
    (suiteOk : ∀ (a : Addr) (oe : Obj) (cls : Value) (d : Option Addr) (pn : List (Addr × Obj)), Zc cls d oe → (∃ vs, oe.data = .fields vs) → PSs (X.suite a ((a, oe) :: pn)) (st₀ :: rest) (ts a cls d)) :
    PS X (.Try body [.ExceptHandler (some (.Name x np)) (some n) (st₀ :: rest) q1] [] [] q2) (fun D σ H => tb (wKeep X.K c i ts D) D σ H) := by
  refine ⟨fun pins s σ H D I told => ?_⟩
  have fine := I.ok
  have frames : X.A.frames = some (X.env :: X.outer) := by rw [fine.frames, stk]
  have there : Loc X.env.scope n := .inl loc
  refine wpAny_Try_except ?_
  let catch_ : Value → Shared → Prop := fun u s₁ => wpAny (model X.prog X.w) X.A (noteFrame u X.env) (fun _ s₂ => wpAny (model X.prog X.w) X.A (setFlight u none) (fun _ s₃ =>
      wpAny (model X.prog X.w) X.A (handleBy u X.env [.ExceptHandler (some (.Name x np)) (some n) (st₀ :: rest) q1]) (SP X pins D) X.xe s₃) X.xe s₂) X.xe s₁
  refine wpAny_mono ((bodyOk (wKeep X.K c i ts D) (X.pn ++ pins) catch_ (fun u t air => ?_) PassesOwn.looking).run [] s σ H D (I.toTry _) told) (fun fl t done => ?_) (fun _ _ z => z)
  · obtain ⟨a, B, t0, _, τ, G, cls, d, rfl, J', ground, up1, sky, na, os, ag, yes, act⟩ := air
    have J : Inv X pins τ G t0 := J'.ofTry fine
    have sky2 : Sky B (X.env :: X.outer) a (Zc cls d) X.env.locals t.heap := by rw [← stk]; exact sky
    show wpAny _ X.A (noteFrame (.ref a) X.env) _ _ t
    refine Sky.land Zc.steady frames frm sky2 fun g3 fly3 up3 => ?_
    have J3 : Inv X pins τ G { t with heap := g3 } := J.landed ground fly3.1 (up1.trans up3) os ag
    obtain ⟨e3, w3, get3, z3, dat3⟩ := fly3.there
    have off : a ∉ frs (X.env :: X.outer) := fun m => by
      obtain ⟨_, ob, g, no⟩ := fly3.2.2.1.mem m
      rw [get3] at g
      cases g
      exact no _ dat3
    have off1 : a ≠ X.env.locals := fun z => off (List.mem_filterMap.mpr ⟨X.env, List.mem_cons_self, by rw [frm, z]⟩)
    have off2 : a ∉ X.fs := fun m => by
      obtain ⟨v, hv, z⟩ := List.mem_filterMap.mp m
      exact off (List.mem_filterMap.mpr ⟨v, List.mem_cons_of_mem _ hv, z⟩)
    -- what stood ahead of the error is not the error
    have old : ∀ b o, t0.heap.get? b = some o → b ∉ frs X.stack → b ≠ a := fun b o g nf z => by
      have g2 := ground b o g nf
      rw [z, fly3.2.1] at g2
      cases g2
    have young : X.s_0.heap.get? a = none := by
      cases h0 : X.s_0.heap.get? a with
      | none => rfl
      | some o =>
        obtain ⟨o', g⟩ := J.base.there a o h0 (by rw [noex]; exact List.not_mem_nil)
        exact absurd rfl (old a o' g (by rw [stk]; exact off))
    have S3 := J3.suite get3 dat3 na off1 off2
    refine wpAny_handleBy_cons (codeAny_handlers_test ?_) (fun z => nomatch z)
    have kind : PySem.W.Looks (model X.prog X.w) g3 (typeOf (.ref a)) cls := fun A Q E s k q => wpAny_typeOf_ref (k _ _ get3) (by rw [z3.1]; exact q)
    have met := PySem.W.exm_one (M := model X.prog X.w) J3.kIn kind yes
    have named : ∀ {Q : Value → Shared → Prop} {E : Value → Shared → Prop}, Q c { t with heap := g3 } → wpAny (model X.prog X.w) (X.A.mark (some (.ref a))) (eval (.Name x np) X.env) Q E { t with heap := g3 } := fun q => by
      obtain ⟨hg, nodb, h | ⟨h, boot, nn⟩⟩ := nms
      · exact ld_glob (X := X.suite a ((a, e3) :: (X.pn ++ pins))) S3 hg h q nodb
      · exact ld_blt (X := X.suite a ((a, e3) :: (X.pn ++ pins))) S3 hg h boot q nn nodb
    refine named (met.here (codeAny_handlers_suite_as (HandSPX.lands_againZ fly3 fun g4 fly4 up4 => ?_)))
    have J4 : Inv X pins τ G { t with heap := g4 } := J.landed ground fly4.1 ((up1.trans up3).trans up4) os ag
    obtain ⟨e4, w4, get4, z4, dat4⟩ := fly4.there
    refine store_ok (X := X.suite a ((a, e4) :: (X.pn ++ pins))) (v := .ref a) (J4.suite get4 dat4 na off1 off2) nd hi there rfl (fun t5 S5 => ?_) (.inr loc)
    refine wpAny_mono ((suiteOk a e4 cls d (X.pn ++ pins) z4 ⟨_, dat4⟩).run [] t5 _ G _ S5 (act a e4 na z4 ⟨_, dat4⟩)) (fun fl t6 done => ?_) (fun _ _ z => False.elim z)
    match fl, done with
    | .next, ⟨τ6, G6, S6, q6⟩ =>
      refine gone_ok (X := X.suite a ((a, e4) :: (X.pn ++ pins))) S6 nd hi loc fun t7 S7 => ⟨_, _, inv_track (S7.unsuite fine) (S7.pin (a, e4) (List.mem_append_left _ List.mem_cons_self)).1 (S7.pin (a, e4) (List.mem_append_left _ List.mem_cons_self)).2.1 young (fun p m => ?_) (Ne.symm off1) (fun y b l z => ?_), q6⟩
      · obtain ⟨g, _, n1, n2, _⟩ := J.pin p m
        refine old p.1 p.2 g fun m2 => ?_
        rw [stk] at m2
        obtain ⟨v, hv, z⟩ := List.mem_filterMap.mp m2
        rcases List.mem_cons.mp hv with rfl | hv
        · rw [frm] at z
          exact n1 (Option.some.inj z).symm
        · exact n2 (List.mem_filterMap.mpr ⟨v, hv, z⟩)
      · obtain ⟨v, ob, g, dv⟩ := S7.cell y b l
        have g2 := (S7.pin (a, e4) (List.mem_append_left _ List.mem_cons_self)).1
        rw [z, g2] at g
        cases g
        rw [dat4] at dv
        cases dv
    | .brk, ⟨_, _, _, q6⟩ => exact False.elim q6
    | .cont, ⟨_, _, _, q6⟩ => exact False.elim q6
    | .ret _, ⟨_, _, _, _, _, q6⟩ => exact False.elim q6
  · match fl, done with
    | .next, ⟨τ, G, J, q⟩ => exact wpAny_execs_nil ⟨τ, G, J.ofTry fine, q⟩
    | .brk, ⟨τ, G, J, q⟩ => exact ⟨τ, G, J.ofTry fine, q⟩
    | .cont, ⟨τ, G, J, q⟩ => exact ⟨τ, G, J.ofTry fine, q⟩
    | .ret _, ⟨v, τ, G, J, r, q⟩ => exact ⟨v, τ, G, J.ofTry fine, r, q⟩
end
end KErr
set_option Elab.async false
set_option linter.all false
set_option maxRecDepth 100000
set_option maxHeartbeats 4000000
namespace KF
/-! ### the mathematics of a beat: L comings ahead, then again and again P of them -/
def place (L P i : Nat) : Nat := if i < L then i else L + (i - L) % P
def goesB (L P : Nat) (as : List Bool) (i : Nat) : Bool := as.getD (place L P i) false
def upTo (f : Nat → Bool) (c : Nat) : Nat := ((List.range c).filter f).length
def thr (L P : Nat) (as : List Bool) (c : Nat) : Nat := upTo (goesB L P as) c
def tot (L P : Nat) (as : List Bool) : Nat := thr L P as (L + P)
def cnt (as : List Bool) : Nat := (as.filter id).length
def each (L : Nat) (as : List Bool) : Nat := cnt (as.drop L)
theorem upTo_succ (f : Nat → Bool) (c : Nat) : upTo f (c + 1) = upTo f c + (if f c = true then 1 else 0) := by
  unfold upTo
  rw [List.range_succ, List.filter_append, List.length_append, List.filter_cons]
  split <;> rfl
theorem upTo_mono (f : Nat → Bool) {c d : Nat} (h : c ≤ d) : upTo f c ≤ upTo f d := by
  induction h with
  | refl => exact Nat.le_refl _
  | step _ ih =>
    rw [upTo_succ]
    omega
theorem upTo_le (f : Nat → Bool) (c : Nat) : upTo f c ≤ c := by
  have h := List.length_filter_le f (List.range c)
  rw [List.length_range] at h
  exact h
theorem upTo_inj (f : Nat → Bool) {c d : Nat} (hc : f c = true) (hd : f d = true) (h : upTo f (c + 1) = upTo f (d + 1)) : c = d := by
  have sc := upTo_succ f c
  have sd := upTo_succ f d
  rw [if_pos hc] at sc
  rw [if_pos hd] at sd
  rcases Nat.lt_trichotomy c d with l | e | l
  · have := upTo_mono f (show c + 1 ≤ d from l)
    omega
  · exact e
  · have := upTo_mono f (show d + 1 ≤ c from l)
    omega
theorem upTo_congr {f g : Nat → Bool} : ∀ {c : Nat}, (∀ i, i < c → f i = g i) → upTo f c = upTo g c
  | 0, _ => rfl
  | c + 1, h => by rw [upTo_succ, upTo_succ, upTo_congr (fun i hi => h i (Nat.lt_succ_of_lt hi)), h c (Nat.lt_succ_self c)]
theorem filter_get (f : Nat → Bool) : ∀ (n k c : Nat), ((List.range n).filter f)[k]? = some c → c < n ∧ f c = true ∧ upTo f c = k
  | 0, k, c, h => by simp at h
  | n + 1, k, c, h => by
    rw [List.range_succ, List.filter_append] at h
    by_cases hk : k < ((List.range n).filter f).length
    · rw [List.getElem?_append_left hk] at h
      obtain ⟨h1, h2, h3⟩ := filter_get f n k c h
      exact ⟨Nat.lt_succ_of_lt h1, h2, h3⟩
    · rw [List.getElem?_append_right (Nat.le_of_not_lt hk), List.filter_cons] at h
      split at h
      · rename_i hf
        have e : k - ((List.range n).filter f).length = 0 := by
          have := (List.getElem?_eq_some_iff.mp h).1
          simp at this
          omega
        rw [e] at h
        obtain rfl : n = c := by simpa using h
        exact ⟨Nat.lt_succ_self _, hf, by unfold upTo; omega⟩
      · simp at h
theorem place_low {L P i : Nat} (h : i < L + P) : place L P i = i := by
  unfold place
  split
  · rfl
  · rw [Nat.mod_eq_of_lt (by omega)]
    omega
theorem place_lt {L P : Nat} (hP : 0 < P) (i : Nat) : place L P i < L + P := by
  unfold place
  split
  · omega
  · have := Nat.mod_lt (i - L) hP
    omega
theorem place_per {L P i : Nat} (h : L ≤ i) : place L P (i + P) = place L P i := by
  unfold place
  rw [if_neg (by omega), if_neg (by omega), show i + P - L = i - L + P by omega, Nat.add_mod_right]
section
variable {L P : Nat} {as : List Bool}
theorem goes_per {i : Nat} (h : L ≤ i) : goesB L P as (i + P) = goesB L P as i := by
  unfold goesB
  rw [place_per h]
theorem goes_many {i : Nat} (h : L ≤ i) : ∀ t, goesB L P as (i + t * P) = goesB L P as i
  | 0 => by rw [Nat.zero_mul, Nat.add_zero]
  | t + 1 => by rw [show i + (t + 1) * P = i + t * P + P by rw [Nat.succ_mul]; omega, goes_per (by omega), goes_many h t]
theorem goes_low {i : Nat} (h : i < L + P) : goesB L P as i = as.getD i false := by
  unfold goesB
  rw [place_low h]
theorem thr_low {c : Nat} (h : c ≤ L + P) : thr L P as c = upTo (fun i => as.getD i false) c := upTo_congr fun i hi => goes_low (by omega)
theorem upTo_take (as : List Bool) : ∀ c, c ≤ as.length → upTo (fun i => as.getD i false) c = cnt (as.take c)
  | 0, _ => by simp [upTo, cnt]
  | c + 1, h => by
    have hc : c < as.length := h
    rw [upTo_succ, upTo_take as c (by omega), List.take_succ, List.getElem?_eq_getElem hc]
    unfold cnt
    rw [List.filter_append, List.length_append, List.getD_eq_getElem?_getD, List.getElem?_eq_getElem hc]
    show _ = _ + (List.filter id [as[c]]).length
    rw [List.filter_cons]
    show _ + (if as[c] = true then 1 else 0) = _ + (if as[c] = true then _ else _ : List Bool).length
    split <;> rfl
theorem thr_take (hl : as.length = L + P) {c : Nat} (h : c ≤ L + P) : thr L P as c = cnt (as.take c) := by
  rw [thr_low h, upTo_take as c (by omega)]
theorem cnt_app (xs ys : List Bool) : cnt (xs ++ ys) = cnt xs + cnt ys := by
  unfold cnt
  rw [List.filter_append, List.length_append]
theorem tot_is (hl : as.length = L + P) : tot L P as = thr L P as L + each L as := by
  unfold tot each
  rw [thr_take hl (Nat.le_refl _), thr_take hl (by omega), List.take_of_length_le (by omega), ← cnt_app, List.take_append_drop]
theorem thr_per (hl : as.length = L + P) {c : Nat} (h : L ≤ c) : thr L P as (c + P) = thr L P as c + each L as := by
  induction h with
  | refl => exact tot_is hl
  | @step m hm ih =>
    have hm : L ≤ m := hm
    have e1 := upTo_succ (goesB L P as) m
    have e2 := upTo_succ (goesB L P as) (m + P)
    rw [goes_per hm] at e2
    show upTo (goesB L P as) (m + 1 + P) = upTo (goesB L P as) (m + 1) + each L as
    have ih : upTo (goesB L P as) (m + P) = upTo (goesB L P as) m + each L as := ih
    rw [show m + 1 + P = m + P + 1 by omega, e2, e1, ih]
    omega
theorem thr_many (hl : as.length = L + P) {c : Nat} (h : L ≤ c) : ∀ t, thr L P as (c + t * P) = thr L P as c + t * each L as
  | 0 => by rw [Nat.zero_mul, Nat.zero_mul, Nat.add_zero, Nat.add_zero]
  | t + 1 => by
    rw [show c + (t + 1) * P = c + t * P + P by rw [Nat.succ_mul]; omega, thr_per hl (by omega), thr_many hl h t, Nat.succ_mul]
    omega
theorem thr_far (hl : as.length = L + P) {r : Nat} (hr : r ≤ P) (t : Nat) : thr L P as (L + r + t * P) = cnt (as.take L) + t * cnt (as.drop L) + cnt ((as.drop L).take r) := by
  rw [thr_many hl (by omega), thr_take hl (by omega), List.take_add, cnt_app]
  unfold each
  omega
theorem thr_all (hP : 0 < P) (hl : as.length = L + P) (h0 : each L as = 0) (c : Nat) : thr L P as c ≤ tot L P as := by
  by_cases h : c ≤ L + P
  · exact upTo_mono _ h
  · have e : c = (L + (c - L) % P) + (c - L) / P * P := by
      have := Nat.mod_add_div (c - L) P
      rw [Nat.mul_comm] at this
      omega
    have := Nat.mod_lt (c - L) hP
    rw [e, thr_many hl (by omega), h0, Nat.mul_zero, Nat.add_zero]
    exact upTo_mono _ (by omega)
/-- the comings of the list that go on -/
def goL (n : Nat) (as : List Bool) : List Nat := (List.range n).filter fun i => as.getD i false
theorem goL_len (L P : Nat) (as : List Bool) : (goL (L + P) as).length = tot L P as := (thr_low (Nat.le_refl _)).symm
theorem goL_get {k c : Nat} (h : (goL (L + P) as)[k]? = some c) : c < L + P ∧ goesB L P as c = true ∧ thr L P as c = k := by
  obtain ⟨h1, h2, h3⟩ := filter_get _ _ _ _ h
  exact ⟨h1, by rw [goes_low h1]; exact h2, by rw [thr_low (Nat.le_of_lt h1)]; exact h3⟩
theorem goL_side {k c : Nat} (h : (goL (L + P) as)[k]? = some c) : (L < c + 1) ↔ thr L P as L ≤ k := by
  obtain ⟨h1, h2, h3⟩ := goL_get h
  constructor
  · intro hc
    rw [← h3]
    exact upTo_mono _ (by omega)
  · intro hk
    refine Nat.lt_succ_of_le (Nat.le_of_not_lt fun lt => ?_)
    have := upTo_mono (goesB L P as) (show c + 1 ≤ L from lt)
    rw [upTo_succ, if_pos h2] at this
    have h3 : upTo (goesB L P as) c = k := h3
    have hk : upTo (goesB L P as) L ≤ k := hk
    omega
theorem from_get (g : Nat) : ∀ (n j : Nat), j < n - g → ((List.range n).filter fun i => decide (g ≤ i))[j]? = some (g + j)
  | 0, j, h => absurd h (by omega)
  | n + 1, j, h => by
    have len : ∀ n, ((List.range n).filter fun i => decide (g ≤ i)).length = n - g := fun n => by
      induction n with
      | zero => simp
      | succ n ih =>
        rw [List.range_succ, List.filter_append, List.length_append, ih, List.filter_cons]
        by_cases hg : g ≤ n
        · rw [if_pos (by simpa using hg)]
          simp
          omega
        · rw [if_neg (by simpa using hg)]
          simp
          omega
    rw [List.range_succ, List.filter_append]
    by_cases hj : j < n - g
    · rw [List.getElem?_append_left (by rw [len]; exact hj)]
      exact from_get g n j hj
    · rw [List.getElem?_append_right (by rw [len]; omega), len, List.filter_cons, if_pos (by simp; omega)]
      have e : j - (n - g) = 0 := by omega
      rw [e]
      simp
      omega
theorem from_len (g : Nat) (n : Nat) : ((List.range n).filter fun i => decide (g ≤ i)).length = n - g := by
  induction n with
  | zero => simp
  | succ n ih =>
    rw [List.range_succ, List.filter_append, List.length_append, ih, List.filter_cons]
    by_cases hg : g ≤ n
    · rw [if_pos (by simpa using hg)]
      simp
      omega
    · rw [if_neg (by simpa using hg)]
      simp
      omega
/-- the k-th coming that goes on, behind the first ones -/
theorem far_get (hP : 0 < P) (hl : as.length = L + P) (he : 0 < each L as) {k : Nat} (hk : tot L P as < k) : ∃ c0, (goL (L + P) as)[thr L P as L + (k - 1 - thr L P as L) % each L as]? = some c0 ∧
    goesB L P as (c0 + (k - 1 - thr L P as L) / each L as * P) = true ∧ thr L P as (c0 + (k - 1 - thr L P as L) / each L as * P + 1) = k := by
  have ht := tot_is hl
  have hm := Nat.mod_lt (k - 1 - thr L P as L) he
  have hd := Nat.mod_add_div (k - 1 - thr L P as L) (each L as)
  rw [Nat.mul_comm] at hd
  generalize hq : (k - 1 - thr L P as L) / each L as = q at hd
  generalize hr : (k - 1 - thr L P as L) % each L as = r at hm hd
  have hlt : thr L P as L + r < (goL (L + P) as).length := by rw [goL_len]; omega
  refine ⟨(goL (L + P) as)[thr L P as L + r], by simp [hlt], ?_⟩
  have hg : (goL (L + P) as)[thr L P as L + r]? = some (goL (L + P) as)[thr L P as L + r] := by simp [hlt]
  have hs := (goL_side hg).mpr (by omega)
  obtain ⟨h1, h2, h3⟩ := goL_get hg
  generalize (goL (L + P) as)[thr L P as L + r] = c0 at hg hs h1 h2 h3
  have g1 : goesB L P as (c0 + q * P) = true := by rw [goes_many (by omega)]; exact h2
  refine ⟨g1, ?_⟩
  have s := upTo_succ (goesB L P as) (c0 + q * P)
  rw [if_pos g1] at s
  have m := thr_many (P := P) hl (show L ≤ c0 by omega) q
  have m : upTo (goesB L P as) (c0 + q * P) = upTo (goesB L P as) c0 + q * each L as := m
  have h3 : upTo (goesB L P as) c0 = thr L P as L + r := h3
  show upTo (goesB L P as) (c0 + q * P + 1) = k
  rw [s, m, h3]
  omega
end
end KF
set_option Elab.async false
set_option linter.all false
set_option maxRecDepth 100000
set_option maxHeartbeats 4000000
namespace KF
open PySem PySem.Spec PyProof.Rows L2 Evl
local macro_rules | `(tactic| walk_at "ev") => `(tactic| repeat' (first | exact ev_c | exact ev_var rfl | exact rv_I0 | refine' rv_I ?_ | refine' rv_eq ?_ | refine' rv_ne ?_ | refine' ev_op ?_ ?_ ?_ | exact ea_nil | refine' ea_cons ?_ ?_ | refine' et_test ?_ | refine' et_B ?_ | refine' et_not ?_ | refine' ev_notV ?_))

theorem all_nat {n : Nat} {p : Nat → Bool} (h : (List.range n).all p = true) : ∀ i, i < n → p i = true := fun i hi => List.all_eq_true.mp h i (List.mem_range.mpr hi)
def EvI (te : TE) (σ : L2.St) (H : Hp) (C : Addr) (fs : List (Str × V)) : Prop := ∀ H1, Ex H H1 → ∀ Q : VK, (∀ p dx H2, H1 p = none → Ex H1 H2 → H2 p = some (.ins C dx fs) → Q (.ref p) H2) → te σ H1 Q
def EvW (K : PySem.W.Frag) (te : TE) (σ : L2.St) (H : Hp) (xs : List V) : Prop := ∀ H1, Ex H H1 → ∀ Q : VK, (∀ p H2, Ex H1 H2 → SqT K H2 p xs → Q (.ref p) H2) → te σ H1 Q
section
variable {σ : L2.St} {K : PySem.W.Frag} {H H' : Hp} {tx te ta tb tv : TE} {u t : TT} {v x y z : V} {r : R2} {D : Ends} {tz : TS}
theorem ev_isi {ta : TA} {c : V} {t u : Value} {b : Bool} (ha : EvA ta σ H [x, c]) (k : ClsV c u) (ty : ∀ H', Ex H H' → TyX K H' x t) (e : PySem.W.kitOne K t u = some b) : Ev (tCB (rIsi K) ta) σ H (.bl b) := fun H1 e1 Q q =>
  ha H1 e1 _ fun H2 e2 => ⟨x, c, t, u, b, rfl, k, ty H2 (e1.trans e2), e, q H2 e2⟩
theorem ev_chain {r r' : R2} {tc : TE} {k1 k2 : Bool} {z : V} (ha : Ev ta σ H x) (hb : Ev tb σ H y) (h1 : RV r x y H (.bl k1)) (hc : k1 = true → Ev tc σ H z ∧ RV r' y z H (.bl k2)) : Ev (tChain r r' ta tb tc) σ H (.bl (k1 && k2)) := fun H1 e1 Q q =>
  ha H1 e1 _ fun H2 e2 => hb H2 (e1.trans e2) _ fun H3 e3 => h1 H3 ((e1.trans e2).trans e3) _ fun H4 e4 => ⟨k1, rfl, by
    cases k1 with
    | true =>
      obtain ⟨h3, h4⟩ := hc rfl
      exact h3 H4 (((e1.trans e2).trans e3).trans e4) _ fun H5 e5 => h4 H5 ((((e1.trans e2).trans e3).trans e4).trans e5) _ fun H6 e6 => q H6 ((((e2.trans e3).trans e4).trans e5).trans e6)
    | false => exact q H4 ((e2.trans e3).trans e4)⟩
theorem ev_cval {ta : TE} {C : Addr} {mc : Value} {f : Str} {u : Value} (h : Ev ta σ H (.ref C)) (r : ClX.CRead K C mc) (k : ClX.CVal K C mc f v u) : Ev (ClX.tCVal K ta f) σ H v := fun H1 e Q q => h H1 e _ fun H2 e2 => ⟨C, mc, v, u, rfl, r, k, q H2 e2⟩
theorem ev_prop {C a : Addr} {dx : Addr} {fs : List (Str × V)} {sp : Sp} {E : XK} (h : Ev ta σ H (.ref a)) (ho : H a = some (.ins C dx fs)) (hs : SpV sp [.ref a] H v) : Ev (tProp C sp [] E ta) σ H v := fun H1 e Q q =>
  h H1 e _ fun H2 e2 => ⟨a, dx, fs, rfl, e2 _ _ (e _ _ ho), hs H2 (e.trans e2) Q (fun H3 e3 => q H3 (e2.trans e3)) E⟩
theorem ev_fld {C a : Addr} {dx : Addr} {fs : List (Str × V)} {f : Str} (h : Ev ta σ H (.ref a)) (ho : H a = some (.ins C dx fs)) (c : Cls K C) (n : NoAttr K C f) (l : fs.lookup f = some v) : Ev (tFld K ta f) σ H v := fun H1 e Q q =>
  h H1 e _ fun H2 e2 => ⟨a, C, dx, fs, v, rfl, e2 _ _ (e _ _ ho), c, n, l, q H2 e2⟩
theorem spv_get {C a : Addr} {dx : Addr} {fs : List (Str × V)} {f : Str} (ho : H a = some (.ins C dx fs)) (l : fs.lookup f = some v) : SpV (getSp C f) [.ref a] H v := fun H1 e Q q E => ⟨a, dx, fs, v, rfl, e _ _ ho, l, q H1 (Ex.refl _)⟩
end
section
variable {σ : L2.St} {K : PySem.W.Frag} {H H' : Hp} {tx te ta tb tv : TE} {u t : TT} {v x y z : V} {r : R2} {D : Ends} {tz : TS}
theorem el_lcS {s : Str} {tl' : TE} {j : Nat} {vs : List Nat} (f : Nat → Bool) (v : Nat → V) (h : Ev tl' σ H (.str s)) (hz : s.cps.size ≤ 40000) (hw : ∀ x, wipe ((wipe σ vs).set j (some x)) vs = wipe σ vs)
    (ht : ∀ (i : Nat) (c : Nat) H1, Ex H H1 → s.cps[i]? = some c → EvT t ((wipe σ vs).set j (some (.str ⟨#[c]⟩))) H1 (f i)) (he : ∀ (i : Nat) (c : Nat) H1, Ex H H1 → s.cps[i]? = some c → f i = true → Ev te ((wipe σ vs).set j (some (.str ⟨#[c]⟩))) H1 (v i)) :
    EvL (tLc (iStr tl') (gName j) t te vs) σ H (given s.cps.size f v) := fun H0 e Q q => h H0 e _ fun H1 e1 => ⟨s, rfl, fun Dl hD =>
  ⟨fun i m H' => m = s.cps.size - i ∧ i ≤ s.cps.size ∧ Cw H1 f v Dl i H', ⟨s.cps.size, by simp, Nat.zero_le _, hD, Ex.new hD, upd_same⟩, by
    rintro i m H' ⟨rfl, hi, p⟩
    by_cases hlt : i < s.cps.size
    · refine .inr ⟨hlt, Cw H1 f v Dl (i + 1), fun H2 p' => ⟨s.cps.size - (i + 1), by omega, rfl, hlt, p'⟩, ?_⟩
      rintro x H2 ⟨rfl, c, hc, rfl⟩
      exact ⟨hw _, cw_turn p (by omega) (ht i c H1 (e.trans e1) hc) (fun hf => he i c H1 (e.trans e1) hc hf)⟩
    · have e2 : i = s.cps.size := by omega
      subst e2
      exact .inl ⟨Nat.le_refl _, q Dl H' (fresh_back e1 p.1) (e1.trans p.2.1) p.2.2⟩⟩⟩
theorem el_lcT {a : Addr} {xs : List V} {tl : TE} {g : TG} {vs : List Nat} {σ' : V → L2.St} (f : Nat → Bool) (v : Nat → V) (h : Ev tl σ H (.ref a)) (hx : SqT K H a xs) (hz : xs.length ≤ 40000)
    (hg : ∀ (i : Nat) (x : V) H1 (Q : L2.St → Hp → Prop), Ex H H1 → xs[i]? = some x → Q (σ' x) H1 → g x (wipe σ vs) H1 Q) (hw : ∀ x, wipe (σ' x) vs = wipe σ vs)
    (ht : ∀ (i : Nat) (x : V) H1, Ex H H1 → xs[i]? = some x → EvT t (σ' x) H1 (f i)) (he : ∀ (i : Nat) (x : V) H1, Ex H H1 → xs[i]? = some x → f i = true → Ev te (σ' x) H1 (v i)) :
    EvL (tLc (iTup K tl) g t te vs) σ H (given xs.length f v) := fun H0 e Q q => h H0 e _ fun H1 e1 => ⟨a, rfl, ⟨xs, ex_t (e.trans e1) hx⟩, fun Dl hD =>
  lc_tup (xs := xs) (Cw H1 f v Dl) ⟨hD, Ex.new hD, upd_same⟩ (fun i H' _ p => ex_t ((e.trans e1).trans p.2.1) hx)
    (fun i x H' hi p => hg i x H' _ ((e.trans e1).trans p.2.1) hi ⟨hw x, cw_turn p (by have := (List.getElem?_eq_some_iff.mp hi).1; omega) (ht i x H1 (e.trans e1) hi) (fun hf => he i x H1 (e.trans e1) hi hf)⟩)
    (fun He cw => q Dl He (fresh_back e1 cw.1) (e1.trans cw.2.1) cw.2.2)⟩
theorem et_yes : EvT tYes σ H true := fun H1 _ _ q => q H1 (Ex.refl H1)
theorem eu_tuple {xs : List V} (h : EvL te σ H xs) : EvU (tCB (fun xs H Q => ∃ p ys, xs = [.ref p] ∧ ((SqL K H p ys ∧ ∀ l, H l = none → Q (.ref l) (upd H l (.tup ys))) ∨ (SqT K H p ys ∧ Q (.ref p) H))) (tCons te tNil)) σ H xs := fun H1 e Q q =>
  h H1 e _ fun p H2 _ e2 h2 => ⟨p, xs, rfl, .inl ⟨sq_of h2, fun l hl => q l _ (fresh_back e2 hl) (e2.trans (Ex.new hl)) upd_same⟩⟩
theorem ev_sum {ns : List Int} (h : EvL te σ H (ns.map V.int)) : Ev (tCB (rSum K) (tCons te tNil)) σ H (.int ns.sum) := fun H1 e Q q =>
  h H1 e _ fun p H2 _ e2 h2 => ⟨p, ns, rfl, sq_of h2, q H2 e2⟩
theorem el_is {xs ys : List V} (h : EvL te σ H xs) (e : xs = ys) : EvL te σ H ys := e ▸ h
theorem eu_is {xs ys : List V} (h : EvU te σ H xs) (e : xs = ys) : EvU te σ H ys := e ▸ h
end
section
variable {σ : L2.St} {K : PySem.W.Frag} {H H' : Hp} {tx te ta tb tv : TE} {u t : TT} {v x y z : V} {r : R2} {D : Ends} {tz : TS}
theorem q_asgTV {p : Addr} {xs : List V} {n : Nat} {tgs : TGs} (h : Ev te σ H (.ref p)) (hx : SqT K H p xs) (hl : xs.length = n) (k : ∀ H1, Ex H H1 → tgs xs σ H1 (tz D)) : tSeq (tAsg te (gTup K n tgs)) tz D σ H :=
  h H (Ex.refl _) _ fun H1 e => ⟨p, xs, rfl, ex_t e hx, hl, k H1 e⟩
end
theorem given_all {n : Nat} {v : Nat → V} : given n (fun _ => true) v = (List.range n).map v := by
  unfold given
  rw [List.filter_eq_self.mpr fun _ _ => rfl]
theorem pe_fldE {X : Cx} {K : PySem.W.Frag} {e : Expr} {ta : TE} {f : Str} {pos : Pos} (he : PE X e ta) (hb : attributeBase e f X.env (eval e X.env) = eval e X.env) (hK : X.K = K := by rfl) : PE X (.Attribute e f pos) (tFld K ta f) := by
  subst hK
  exact pe_fld he hb
section
variable {σ : L2.St} {K : PySem.W.Frag} {H H' : Hp} {tx te ta tb tv : TE} {u t : TT} {v x y z : V} {r : R2} {D : Ends} {tz : TS}
def ExB (p : Addr) (H H' : Hp) : Prop := ∀ b o, H b = some o → b ≠ p → H' b = some o
theorem ExB.refl (p : Addr) (H : Hp) : ExB p H H := fun _ _ h _ => h
theorem ExB.trans {p : Addr} {H H1 H2 : Hp} (a : ExB p H H1) (b : ExB p H1 H2) : ExB p H H2 := fun x o h n => b x o (a x o h n) n
theorem ExB.of {p : Addr} {H H' : Hp} (e : Ex H H') : ExB p H H' := fun x o h _ => e x o h
theorem q_fld {p C dx : Addr} {fs : List (Str × V)} {f : Str} (hv : Ev tv σ H y) (ha : Ev ta σ H (.ref p)) (hp : H p = some (.ins C dx fs)) (c : Cls K C) (n : NoAttr K C f) (hl : fs.length < 1000)
    (k : ∀ H1, ExB p H H1 → H1 p = some (.ins C dx (putF f y fs)) → tz D σ H1) : tSeq (sFld K ta tv f) tz D σ H :=
  hv H (Ex.refl _) _ fun H1 e1 => ha H1 e1 _ fun H2 e2 => ⟨p, C, dx, fs, rfl, e2 _ _ (e1 _ _ hp), c, n, hl, k _ (fun b o hb ne => by rw [upd_ne ne]; exact e2 _ _ (e1 _ _ hb)) upd_same⟩
end
section
variable {σ : L2.St} {K : PySem.W.Frag} {H H' : Hp} {tx te ta tb tv : TE} {u t : TT} {v x y z : V} {r : R2} {D : Ends} {tz : TS}
theorem el_sliceL {p : Addr} {xs : List V} {tl th : TO} {lo hi : Option Int} (h : Ev te σ H (.ref p)) (h1 : EvO tl σ H lo) (h2 : EvO th σ H hi) (hs : SqL K H p xs) : EvL (tSl (rSlL K) te tl th) σ H (cutV xs lo hi) := el_sl h h1 h2 hs
theorem el_listN {xs : List V} (h : EvL te σ H xs) : EvL (tCB (fun xs H Q => ∃ p ys, xs = [V.ref p] ∧ (SqL K H p ys ∨ SqT K H p ys) ∧ ∀ l, H l = none → Q (.ref l) (upd H l (.lst ys))) (tCons te tNil)) σ H xs := fun H1 e Q q =>
  h H1 e _ fun p H2 _ e2 h2 => ⟨p, xs, rfl, .inl (sq_of h2), fun l hl => q l _ (fresh_back e2 hl) (e2.trans (Ex.new hl)) upd_same⟩
theorem cut_ints (ns : List Int) (lo hi : Option Int) : ∃ ms : List Int, cutV (ns.map V.int) lo hi = ms.map V.int ∧ ms.length ≤ ns.length := by
  refine ⟨(ns.drop (HT.sIx ns.length 0 lo)).take (HT.sIx ns.length ns.length hi - HT.sIx ns.length 0 lo), ?_, ?_⟩
  · unfold cutV
    rw [List.length_map, List.map_take, List.map_drop]
  · rw [List.length_take, List.length_drop]
    omega
theorem ev_int {i : Int} (h : Ev te σ H (.int i)) : Ev (tCB (fun xs H Q => (∃ i, xs = [V.int i] ∧ Q (.int i) H) ∨ ∃ k, xs = [V.bl k] ∧ Q (.int (if k then 1 else 0)) H) (tCons te tNil)) σ H (.int i) := fun H1 e Q q => h H1 e _ fun H2 e2 => .inl ⟨i, rfl, q H2 e2⟩
theorem ev_intB {k : Bool} (h : Ev te σ H (.bl k)) : Ev (tCB (fun xs H Q => (∃ i, xs = [V.int i] ∧ Q (.int i) H) ∨ ∃ k, xs = [V.bl k] ∧ Q (.int (if k then 1 else 0)) H) (tCons te tNil)) σ H (.int (if k then 1 else 0)) := fun H1 e Q q => h H1 e _ fun H2 e2 => .inr ⟨k, rfl, q H2 e2⟩
theorem ev_lenS {p : Addr} {xs : List V} (ha : Ev ta σ H (.ref p)) (h : SqL K H p xs) : Ev (tCB (fun xs H Q => ∃ p ys, xs = [V.ref p] ∧ (SqL K H p ys ∨ SqT K H p ys) ∧ Q (.int (ys.length : Nat)) H) (tCons ta tNil)) σ H (.int (xs.length : Nat)) := ev_len ha h
theorem ev_abs {i : Int} (h : Ev te σ H (.int i)) : Ev (tCB (fun xs H Q => ∃ i, xs = [V.int i] ∧ Q (.int (if i < 0 then -i else i)) H) (tCons te tNil)) σ H (.int (if i < 0 then -i else i)) := fun H1 e Q q => h H1 e _ fun H2 e2 => ⟨i, rfl, q H2 e2⟩
end
theorem dp_ints {K : PySem.W.Frag} {H : Hp} : ∀ ns : List Int, DpAll K H (ns.map V.int) (ns.map PyData.int)
  | [] => .nil
  | n :: ns => .cons (.int n) (dp_ints ns)
theorem rv_neE {K : PySem.W.Frag} {H : Hp} {l q : Addr} {ns : List Int} (hl : H l = some (.lst (ns.map V.int))) (hq : H q = some (.lst [])) : RV (rNeD K) (.ref l) (.ref q) H (.bl (!PyData.eqv (.list (ns.map PyData.int)) (.list []))) := fun H1 e Q k =>
  ⟨.list (ns.map PyData.int), .list [], .lst (sq_of (e _ _ hl)) (dp_ints ns), .lst (sq_of (e _ _ hq)) .nil, PySem.W.ke_shaped_ints ns, PySem.W.ke_shaped_ints [], k H1 (Ex.refl H1)⟩
theorem eqv_nil (ns : List Int) : PyData.eqv (.list (ns.map PyData.int)) (.list []) = decide (ns = []) := by
  cases ns with
  | nil => simp [PyData.eqv, PyData.eqvAll]
  | cons n ns => simp [PyData.eqv, PyData.eqvAll]
theorem mul_bd {x y A B : Int} (h0 : 0 ≤ x) (h1 : x ≤ A) (h2 : 0 ≤ y) (h3 : y ≤ B) : 0 ≤ x * y ∧ x * y ≤ A * B :=
  ⟨Int.mul_nonneg h0 h2, Int.mul_le_mul h1 h3 h2 (Int.le_trans h0 h1)⟩
theorem s_retPen {te : TE} {σ : L2.St} {H : Hp} {D : Ends} {xs : List V} {x y : V} (h : EvL te σ H xs) (k : ∀ l p H1, H l = none → Ex H H1 → H1 l = some (.lst xs) → H1 p = none → D.rt (.ref p) (upd H1 p (.lst [.ref l, x, y]))) : tRet (tLst (tCons te (tCons (tC x) (tCons (tC y) tNil)))) D σ H :=
  h H (Ex.refl H) _ fun l H1 hl e1 h1 => ⟨by show 3 ≤ sizeLine; decide, fun p hp => k l p H1 hl e1 h1 hp⟩
theorem FnOk.either {P : Program} {w : World} {K : PySem.W.Frag} {mg : Str → Option Value} {base : Heap} {CX : CXT} {k : Nat} {f : Addr} {fd : FuncData} {ps : List Str} {s1 s2 : Sp} (F1 : FnOk P w K mg base CX k f fd ps s1) (F2 : FnOk P w K mg base CX k f fd ps s2) : FnOk P w K mg base CX k f fd ps (fun vs H Q E => s1 vs H Q E ∨ s2 vs H Q E) :=
  ⟨fun vs H Q E h => h.elim (F1.len vs H Q E) (F2.len vs H Q E), fun A outer s H args us vs Q E hr e0 hb r h => h.elim (F1.run A outer s H args us vs Q E hr e0 hb r) (F2.run A outer s H args us vs Q E hr e0 hb r)⟩
def TyE (K : PySem.W.Frag) (H : Hp) (x : V) (t : String) : Prop := ∀ H', Ex H H' → TyX K H' x (.type t)
def BadW (K : PySem.W.Frag) (H : Hp) (x : V) (m : Int) : Prop := (∃ (t : String) (b1 b2 : Bool), TyE K H x t ∧ kitB t "int" = some b1 ∧ kitB t "bool" = some b2 ∧ (b1 && !b2) = false) ∨ ∃ i : Int, x = .int i ∧ (i < 0 ∨ m < i)
theorem BadW.mono {K : PySem.W.Frag} {H H' : Hp} {x : V} {m : Int} (h : BadW K H x m) (e : Ex H H') : BadW K H' x m := by
  rcases h with ⟨t, b1, b2, ty, h1, h2, h3⟩ | h
  · exact .inl ⟨t, b1, b2, fun H1 e1 => ty H1 (e.trans e1), h1, h2, h3⟩
  · exact .inr h
def spW1 (K : PySem.W.Frag) : Sp := fun vs H Q _ => ∃ (x : V) (t : String) (b1 b2 : Bool), vs = [x] ∧ TyE K H x t ∧ kitB t "int" = some b1 ∧ kitB t "bool" = some b2 ∧ ∀ H', Ex H H' → Q (.bl (b1 && !b2)) H'
section
variable {K : PySem.W.Frag} {H : Hp}
theorem rv_isN {x : V} : RV (fun x y H Q => y = .non ∧ Q (.bl (decide (x = .non))) H) x .non H (.bl (decide (x = .non))) := fun H1 _ _ q => ⟨rfl, q H1 (Ex.refl H1)⟩
end
theorem op_eqE {X : Cx} {K : PySem.W.Frag} (h : X.K = K) (hu : X.A.units + 64 < cLine) : OpR X (compareOp .Eq) (rEqD K) := by
  subst h
  exact op_eqD hu
theorem op_ownBE {X : Cx} {K : PySem.W.Frag} {CX : CXT} {C g : Addr} {n : Nat} {sp : Sp} {E : XK} {op : CmpOp} (hK : X.K = K) (hop : ∀ a b, compareOp op a b = richCompare op a b) (hs : PySem.W.findIn K (.ref C) (cmpInfo op).2.1 = some (some (.ref g))) (hf : PySem.W.isFn K (.ref g) = true)
    (F : FnR X.prog X.w X.K X.mg X.base CX n g sp) (room : Room n X.A) (hx : Passes CX X E) : OpR X (compareOp op) (KD.rOwnB K C sp E) := by
  subst hK
  exact KD.op_ownB hop hs hf F room hx
theorem takes_len {X : Cx} {W : WX} (t : Takes X W) : Takes X (fun c d σ H => σ.length = X.N.length → W c d σ H) := fun u s' ⟨a, B, sI, pins, σ, H, cls, d, e, I, nb, up, sky, na, os, ag, w⟩ => t u s' ⟨a, B, sI, pins, σ, H, cls, d, e, I, nb, up, sky, na, os, ag, w I.len⟩
theorem op_neE {X : Cx} {K : PySem.W.Frag} (h : X.K = K) (hu : X.A.units + 64 < cLine) : OpR X (compareOp .NotEq) (rNeD K) := by
  subst h
  exact op_neD hu
theorem cl_of {K : PySem.W.Frag} {D : Addr} (C : ExcC K D) : (PySem.W.clsIn K D).isSome = true := by
  obtain ⟨cd, hc, _⟩ := PySem.W.any_some C.hd
  rw [hc]
  rfl
section
variable {X : Cx} {K : PySem.W.Frag}
theorem call_isiE (h : X.K = K) : CallR X (.builtin "isinstance") (rIsi K) := by
  subst h
  exact call_isi
theorem call_reprVE (h : X.K = K) (gd : X.A.guards = some []) (hu : X.A.units + 64 < cLine) : CallR X (.builtin "repr") (KD.rReprV K) := by
  subst h
  exact KD.call_reprV gd hu
theorem ix_listE (h : X.K = K) : IxR X (rIxL K) := by
  subst h
  exact ix_list
theorem op_notIn_seqE (h : X.K = K) : OpR X (compareOp .NotIn) (rIn K true) := by
  subst h
  exact op_notIn_seq
end
theorem q_asgRaw {te : TE} {i : Nat} {D : Ends} {tz : TS} {σ : L2.St} {H : Hp} (h : te σ H fun x H1 => tz D (σ.set i (some x)) H1) : tSeq (tAsg te (gName i)) tz D σ H := h
theorem ixN_nat {n j : Nat} (h : j < n) : ixN n ((j : Nat) : Int) = some j := by
  unfold ixN
  rw [if_pos (by omega), if_pos (by omega)]
  rfl
def tMethK (C : Addr) (m : Str) (sp : Sp) (gV : List V → List V → List V) (E : XK) (ta : TE) (tk : TA) : TE := fun σ H Q => ta σ H fun x H1 => ∃ a dx fs, x = .ref a ∧ H1 a = some (.ins C dx fs) ∧ fs.lookup m = none ∧ tk σ H1 fun zs H2 => sp (gV [x] zs) H2 Q E
section
variable {X : Cx} {CX : CXT} {k : Nat} {C p g : Addr} {sp : Sp} {E : XK} {o e : Expr} {es : List Expr} {m : Str} {pos apos : Pos} {ta : TE} {t tk : TA} {fd : FuncData} {ps ks : List Str} {kws : List Keyword} {gg : List Value → List Value → List Value} {gV : List V → List V → List V}
theorem pe_methK {pl : Sem Bool} (he : PE X o ta) (c : Cls X.K C) (hm : Meth X.K C m g) (F : FnOk X.prog X.w X.K X.mg X.base CX k g fd ps sp) (hr : Room k X.A) (hb : KBinds X.K fd ps ks gg gV) (hx : Passes CX X E) (hkw : PK X kws tk)
    (hall : (backToKw pos (keywordEach kws X.env)).all (·.1.isSome) = true := by rfl) (hks : (backToKw pos (keywordEach kws X.env)).filterMap (·.1) = ks := by rfl)
    (hpl : ((backTo pos (starEach [] X.env)).any (·.1) || (backToKw pos (keywordEach kws X.env)).any (·.1.isNone)) = false := by rfl)
    (ht : eval (.Call (.Attribute o m apos) [] kws pos) X.env = (do
      let ov ← eval o X.env
      standAt apos.atName
      let (f, first) ← holding [ov] (getMethod ov m pl)
      callWith pos f first (backTo pos (starEach [] X.env)) (backToKw pos (keywordEach kws X.env))) := by rfl) :
    PE X (.Call (.Attribute o m apos) [] kws pos) (tMethK C m sp gV E ta tk) := by
  refine ⟨fun pins s σ H Q I h => ?_⟩
  refine PySem.W.methodCall_KW (pl := pl) (thn (he.run pins s σ H _ I h) fun u s1 ⟨x, H1, I1, rx, a, dx, fs, ex, ea, l, q⟩ => ?_) ht
  subst ex
  obtain rfl : u = Value.ref a := rx
  refine getmeth_ok I1 ea c hm l ?_
  refine PySem.W.callWith_KW0 (first := [.ref a]) (h₀ := X.base) I1.ok.mod.kin hm.kp hall (thn (hkw.run pos pins s1 σ H1 _ I1 q) fun ws s3 ⟨zs, H2, I3, rz, q2⟩ => ⟨I3.kIn, ?_⟩) hpl
  rw [hks]
  exact run_fnk (us := [.ref a]) (vs := [.ref a]) F hr hb hx I3 (.cons rfl .nil) rz q2
end
namespace Ne
open PySem PySem.W
variable {M : Model} {prog : Program} {w : World} {A : Around} {E : Value → Shared → Prop} {s : Shared} {K : Frag} {x C f : Addr} {ox : Obj} {od : Option Obj}
theorem ifBound_ne {args : List Value} {Q : Option Value → Shared → Prop} (X : K.In s.heap) (I : InstAt s.heap x ox C od) (hs : findIn K (.ref C) "__ne__" = some (some (.builtin "object.__ne__")))
    (h : wpAny M A (call (.builtin "object.__ne__") (.ref x :: args)) (fun v => Q (some v)) E s) : wpAny M A (callSpecialIfBound? (.ref x) "__ne__" args) Q E s := by
  simp only [callSpecialIfBound?, bindSpecialIfBound?]
  refine wpAny_holding (wpAny_bind (wpAny_bind (wpAny_bind (I.type.here ((looks_findIn X hs).here ?_)))))
  refine wpAny_bind (wpAny_askSetting (wpAny_ite ?_))
  have done_ : wpAny M A (call (.builtin "object.__ne__") ([.ref x] ++ args) >>= fun v => pure (some v)) Q E s := wpAny_bind (wpAny_mono h (fun v s' h' => wpAny_pure h') fun _ _ h' => h')
  split
  · exact wpAny_bind (wpAny_of_eq (F.cmp_object.ne.bind _) (wpAny_pure (by exact done_)))
  · exact wpAny_tryCatch (wpAny_bind (wpAny_of_eq (F.cmp_object.ne.bind _) (wpAny_pure (by exact done_))))
theorem entry_ne {y : Value} {Q : Fin → Shared → Prop} (hu : A.units < cLine) (X : K.In s.heap) (I : InstAt s.heap x ox C od) (hs : findIn K (.ref C) "__eq__" = some (some (.ref f))) (hf : isFn K (.ref f) = true)
    (h : wpAny M A (call (.ref f) [.ref x, y]) (fun v s' => ∃ b, v = .bool b ∧ Q (.done (.ret (.bool (!b)))) s') E s) : wpAny M A (Builtin.«object.__ne__» ⟨[.ref x, y], []⟩) Q E s := by
  unfold Builtin.«object.__ne__»
  repeat (first
    | with_reducible refine wpAny_cRoomFor hu ?_
    | (refine wpAny_bind (m := callSpecialIfBound? (.ref x) (Str.ofString "__eq__") [y]) (ifBound_K X I hs hf (wpAny_mono h (fun r s' hr => by
          obtain ⟨b, rfl, hq⟩ := hr
          repeat (first | exact hq | exact wpAny_pure hq | exact wpAny_truthy_bool hq | (refine wpAny_bind (m := truthy (.bool _)) (wpAny_truthy_bool ?_)) | wp_step)) fun _ _ e => e)))
    | wp_step)
theorem rich_ne {y : Value} {Q : Value → Shared → Prop} (hu : A.units + 1 < cLine) (X : K.In s.heap) (I : InstAt s.heap x ox C od) (hy : Looks (model prog w) s.heap (typeOf y) (.ref C)) (hm : mroIn K C (.type "object") = some true)
    (hn : findIn K (.ref C) "__ne__" = some (some (.builtin "object.__ne__"))) (hs : findIn K (.ref C) "__eq__" = some (some (.ref f))) (hf : isFn K (.ref f) = true)
    (h : wpAny (model prog w) A.in1 (call (.ref f) [.ref x, y]) (fun v s' => ∃ b, v = .bool b ∧ Q (.bool (!b)) s') E s) : wpAny (model prog w) A (richCompare .NotEq (.ref x) y) Q E s := by
  have one : wpAny (model prog w) A (tryCompare (.ref x) "__ne__" y) (fun r s' => ∃ b, r = some (.bool b) ∧ Q (.bool b) s') E s := by
    unfold tryCompare
    refine wpAny_bind (ifBound_ne X I hn (wpAny_call (codeAny_call_builtin F.cmp_object.ne.plain F.cmpEntry_ne (check_slot F.cmpKind_ne F.cmpSplit_ne (I.type.andThen (looks_mroIn X hm)) (F.cmpArgs_ne _ _)
      (entry_ne (A := A.in1) (y := y) hu X I hs hf (wpAny_mono h (fun v s' hv => ?_) fun _ _ e => e))))))
    obtain ⟨b, rfl, hq⟩ := hv
    first | exact ⟨b, rfl, wpAny_pure ⟨!b, rfl, hq⟩⟩ | exact ⟨b, rfl, wpAny_pure (wpAny_pure ⟨!b, rfl, hq⟩)⟩ | exact ⟨b, rfl, ⟨!b, rfl, hq⟩⟩
  unfold richCompare
  simp only [oneThing_ref]
  refine wpAny_holding (wpAny_bind (wpAny_cRoomFor (Nat.lt_of_succ_lt hu) ?_))
  rw [cmpInfo_NotEq]
  dsimp only
  refine wpAny_bind (I.type.here (wpAny_bind (hy.here ?_)))
  rw [show (Value.ref C != Value.ref C) = false from by simp]
  simp only [Bool.false_eq_true, if_false]
  refine wpAny_bind (wpAny_pure ?_)
  simp only [Bool.false_eq_true, if_false]
  refine wpAny_bind (wpAny_mono one (fun r s' z => ?_) fun _ _ e => e)
  obtain ⟨b, rfl, hq⟩ := z
  first | exact wpAny_pure hq | exact wpAny_pure (wpAny_pure hq)
end Ne
open PySem
def rOwnNe (C : Addr) (sp : Sp) (E : XK) : R2 := fun x y H Q => ∃ (p dx : Addr) (fs : List (Str × V)) (q dy : Addr) (gs : List (Str × V)), x = .ref p ∧ y = .ref q ∧ H p = some (.ins C dx fs) ∧ H q = some (.ins C dy gs) ∧ sp [x, y] H (fun v H' => ∃ b, v = .bl b ∧ Q (.bl (!b)) H') E
section
variable {X : Cx} {CX : CXT} {C g : Addr} {n : Nat} {sp : Sp} {E : XK}
theorem op_ownNe (hn : PySem.W.findIn X.K (.ref C) "__ne__" = some (some (.builtin "object.__ne__"))) (hm : PySem.W.mroIn X.K C (.type "object") = some true) (hs : PySem.W.findIn X.K (.ref C) "__eq__" = some (some (.ref g))) (hf : PySem.W.isFn X.K (.ref g) = true)
    (F : FnR X.prog X.w X.K X.mg X.base CX n g sp) (room : Room (n + 1) X.A) (hx : Passes CX X E) : OpR X (compareOp .NotEq) (rOwnNe C sp E) := by
  intro pins s σ H x y v u Q I rx ry told
  obtain ⟨p, dx, fs, q, dy, gs, rfl, rfl, hp, hq, want⟩ := told
  obtain rfl : v = Value.ref p := rx
  obtain rfl : u = Value.ref q := ry
  obtain ⟨o1, d1, J1, _⟩ := StX.insC_at (X := X) I (.inr ⟨dx, fs, hp⟩)
  obtain ⟨o2, d2, J2, _⟩ := StX.insC_at (X := X) I (.inr ⟨dy, gs, hq⟩)
  have hu : X.A.units + 1 < cLine := by have := room.units; omega
  show wpAny (model X.prog X.w) X.A (richCompare .NotEq (.ref p) (.ref q)) _ _ _
  refine Ne.rich_ne hu I.kIn J1 J2.type hm hn hs hf (wpAny_mono (wpAny_call (SlX.run_at (us := [.ref p, .ref q]) (ws := [.ref p, .ref q]) F room.in1 I.env0.in1 hx I (.cons rfl (.cons rfl .nil)) want)) (fun r s' got => ?_) fun _ _ same => same)
  obtain ⟨z, H', I', rz, b, rfl, want2⟩ := got
  obtain rfl : r = Value.bool b := rz
  exact ⟨b, rfl, .bl (!b), H', I', rfl, want2⟩
end
section
variable {X : Cx} {CX : CXT} {C g : Addr} {n : Nat} {sp : Sp} {E : XK} {fd : FuncData} {ps : List Str}
theorem callK_of {M : Model} {A : Around} {E : Value → Shared → Prop} {s : Shared} {a : Addr} {pos : Pos} {Q : Value → Shared → Prop} {args : List (Bool × Sem Value)} {kws : List (Option Str × Sem Value)} (hplain : (args.any (·.1) || kws.any (·.1.isNone)) = false)
    (h : wpAny M A (evalArgs (.ref a) true args kws) (fun z s₁ => (∃ C ox od, PySem.W.InstAt s₁.heap a ox C od ∧ ox.data = .plain) ∧ wpAny M A (call (.ref a) ([] ++ z.pos) z.kw) Q E s₁) E s) : wpAny M A (callWith pos (.ref a) [] args kws) Q E s := by
  unfold callWith
  refine wpAny_bind (wpAny_holding (wpAny_mono h (fun got s2 there => wpAny_bind (wpAny_standAt ?_)) fun _ _ same => same))
  obtain ⟨⟨C, ox, od, J, hd⟩, go⟩ := there
  simp only [hplain]
  refine wpAny_bind ((PySem.W.kco_keeper (M := M) J hd).here ?_)
  exact wpAny_bind (wpAny_mono (wpAny_operateT go) (fun r s₂ hr => wpAny_bind (wpAny_holding (wpAny_point (wpAny_pure hr)))) fun _ _ y => y)
def tCallOK (C : Addr) (sp : Sp) (gV : List V → List V → List V) (E : XK) (tf : TE) (tk : TA) : TE := fun σ H Q => tf σ H fun y H1 => ∃ p, y = V.ref p ∧ tk σ H1 fun zs H2 => (∃ dx fs, H2 p = some (.ins C dx fs)) ∧ sp (gV [.ref p] zs) H2 Q E
theorem pe_callOK {fe : Expr} {pos : Pos} {kws : List Keyword} {tf : TE} {tk : TA} {ks : List Str} {gg : List Value → List Value → List Value} {gV : List V → List V → List V} (hf : PE X fe tf) (c : StX.CallO X.K C g) (F : FnOk X.prog X.w X.K X.mg X.base CX n g fd ps sp) (hr : Room n X.A) (hb : KBinds X.K fd ps ks gg gV) (hx : Passes CX X E)
    (hkw : PK X kws tk) (hall : (backToKw pos (keywordEach kws X.env)).all (·.1.isSome) = true := by rfl) (hks : (backToKw pos (keywordEach kws X.env)).filterMap (·.1) = ks := by rfl)
    (hpl : ((backTo pos (starEach [] X.env)).any (·.1) || (backToKw pos (keywordEach kws X.env)).any (·.1.isNone)) = false := by rfl)
    (ht : eval (.Call fe [] kws pos) X.env = (do callWith pos (← eval fe X.env) [] (backTo pos (starEach [] X.env)) (backToKw pos (keywordEach kws X.env))) := by rfl) : PE X (.Call fe [] kws pos) (tCallOK C sp gV E tf tk) := by
  refine ⟨fun pins s σ H Q I h => ?_⟩
  rw [ht]
  refine wpAny_bind (thn (hf.run pins s σ H _ I h) fun u s1 ⟨y, H1, I1, ry, p, ey, q⟩ => ?_)
  subst ey
  obtain rfl : u = Value.ref p := ry
  refine callK_of hpl (PyProof.Rows.evalArgs_kw2_nil hall (thn (hkw.run pos pins s1 σ H1 _ I1 q) fun ws s2 ⟨zs, H2, I2, rz, ⟨dx, fs, hi⟩, q2⟩ => ?_))
  obtain ⟨ox, od, J, hd⟩ := StX.insC_at (X := X) I2 (.inr ⟨dx, fs, hi⟩)
  refine ⟨⟨C, ox, od, J, hd⟩, ?_⟩
  rw [hks]
  have r2 := hb.rel (vs := [.ref p]) (us := [.ref p]) (.cons rfl .nil) rz
  have hl : (gg [.ref p] ws).length = ps.length := by rw [← r2.length]; exact F.len _ _ _ _ q2
  refine wpAny_call (PySem.W.kco_code (a := ⟨[] ++ [], ks.zip ws⟩) I2.kIn J hd c.at_ c.fn c.fi (codeAny_mono (F.run X.A X.stack s2 H2 ⟨[.ref p], ks.zip ws⟩ (gg [.ref p] ws) (gV [.ref p] zs) Q E hr I2.env0 (hb.to s2 [.ref p] ws I2.kIn hl) r2 q2) fun r s' hq => ?_))
  cases r with
  | error e => exact hx pins σ H2 s2 e s' I2 hq
  | ok fl =>
    cases fl with
    | ret u => exact I2.after hq
    | next => exact False.elim hq
    | brk => exact False.elim hq
    | cont => exact False.elim hq
end
theorem two {p : Addr → Prop} {c1 c2 : Addr} (a1 : p c1) (a2 : p c2) : ∀ c ∈ [c1, c2], p c := List.forall_mem_cons.mpr ⟨a1, List.forall_mem_cons.mpr ⟨a2, List.forall_mem_nil _⟩⟩
theorem off2 {c c1 c2 : Addr} (h : c ∉ [c1, c2]) : c ≠ c1 ∧ c ≠ c2 := by
  simp only [List.mem_cons, List.not_mem_nil, or_false, not_or] at h
  exact h
/-! the items of a tuple, counted -/
theorem enum1_meets {v : Value} {o : Obj} {St : Heap → Prop} (B : Begins v o St) : Meets (Builtin.«enumerate.__new__» ⟨[.type "enumerate", v], []⟩) (fun _ R s => St s.heap ∧
    R (.ok (.ret (.ref (s.heap.push o).objs.size))) { s with heap := (s.heap.push o).push { cls := .type "enumerate", data := .fields #[.none, .bool false, .ref s.heap.objs.size, rawInt 0, .none, .none] } }) :=
  .of_wp fun prog w A R ⟨hp, gn, dr, tk, os⟩ ⟨st, go⟩ => by
    have is_a := sub_enumerate
    have it1 : ∀ {A' : Around} {E Q : Value → Shared → Prop}, Q (.ref hp.objs.size) ⟨hp.push o, gn, dr, tk, os⟩ → wpAny (model prog w) A' (pyIter v) Q E ⟨hp, gn, dr, tk, os⟩ := fun q => B.iter prog w _ _ ⟨hp, gn, dr, tk, os⟩ _ st q
    wp_walk using it1
    refine wpAny_stack_any fun stack => wpAny_pure ?_
    split
    · rename_i c _ _ _ _ _
      cases (c == Value.type "enumerate") <;> (wp_walk using it1; exact ⟨_, rfl, go⟩)
    · wp_walk using it1
      exact ⟨_, rfl, go⟩
structure CountTo (b e it : Addr) (i : Nat) (h : Heap) : Prop where
  en : ∃ old, IsEnum h e it (i : Int) old
  tup : h.IsTupleIter it b i
section
variable {b e it : Addr} {i : Nat} {h h' : Heap}
theorem CountTo.obj (q : CountTo b e it i h) : ∀ c ∈ [e, it], ∃ o, h.get? c = some o ∧ ∀ v, o.data ≠ .cell v := by
  obtain ⟨old, he⟩ := q.en
  obtain ⟨p1, g1, _, n1⟩ := q.tup
  exact two ⟨_, he, nofun⟩ ⟨p1, g1, by rw [n1]; exact nofun⟩
theorem CountTo.lt (q : CountTo b e it i h) : ∀ c ∈ [e, it], c < h.objs.size := fun c m => let ⟨_, g, _⟩ := q.obj c m; Heap.lt_size g
theorem CountTo.keep (q : CountTo b e it i h) (k : ∀ c ∈ [e, it], ∀ o, h.get? c = some o → h'.get? c = some o) : CountTo b e it i h' := by
  obtain ⟨old, he⟩ := q.en
  refine ⟨⟨old, k e ?_ _ he⟩, q.tup.at fun o e => k it ?_ o e⟩ <;> simp
end
def ItEt (K : PySem.W.Frag) (b : Addr) : It :=
  ⟨fun i H => ∃ (ys : List V) (y : V), SqT K H b ys ∧ ys[i]? = some y, fun i H v H' => ∃ (T : Addr) (y : V), v = .ref T ∧ H T = none ∧ H' = upd H T (.tup [.int (i : Nat), y]) ∧ ∀ ys, SqT K H b ys → ys[i]? = some y, fun i H => ∃ ys : List V, SqT K H b ys ∧ i = ys.length⟩
theorem turn_enT {P : Program} {w : World} {K : PySem.W.Frag} {elts : List Expr} {kk : Nat} {tpos : Pos} {b e it : Addr} (ne : e ≠ it) (hb : b ≠ it) (hbe : e ≠ b) :
    Turn P w K (.Tuple elts kk tpos) (ItEt K b) [e, it] e (CountTo b e it) where
  mem := List.mem_cons_self ..
  obj := fun _ _ q => q.obj
  keep := fun _ _ _ q k => q.keep k
  self := fun _ _ _ _ _ q k => let ⟨_, he⟩ := q.en; wpAny_pyIter_enum he k
  item := by
    intro X e1 e2 e3 calm i pins s σ H E I free st more
    subst e1 e2 e3
    have quiet : X.A.in1.handled = none := I.ok.hd calm
    obtain ⟨ys, y, seq, hy⟩ := more
    obtain ⟨us, ru, isT, _⟩ := I.tuple seq
    obtain ⟨u, hu, ry⟩ := ru.get hy
    obtain ⟨old, he⟩ := st.en
    have in1 : i < us.toArray.size := by simpa using (List.getElem?_eq_some_iff.mp hu).1
    refine wpAny_pyNext_enum_itemC (Draws.tuple quiet it b hb us.toArray) he ⟨st.tup, isT⟩ in1 ne (fun m => by
      rcases List.mem_cons.mp m with z | m
      · exact ne z
      · exact hbe (List.mem_singleton.mp m)) fun w1 g tk src out s1 gT _ rest => ?_
    obtain rfl : u = w1 := Option.some.inj ((show us.toArray[i]? = some u by simpa using hu).symm.trans src)
    have elt := st.lt e (List.mem_cons_self ..)
    refine ⟨_, rfl, wpAny_letOwnedTupleGo_enum (s := { s with heap := g, toks := tk + 1 }) out fun g' en' but => ?_⟩
    have gT' := (but.2 _ (Nat.ne_of_gt elt)).trans gT
    have pair : ObjOk X.prog X.w (upd H s.heap.objs.size (.tup [.int (i : Nat), y])) g' s.heap.objs.size (.tup [.int (i : Nat), y]) := ⟨by show 2 ≤ sizeLine; decide, [.int (i : Nat) tk, u], .cons ⟨tk, rfl⟩ (.cons ry .nil), ⟨_, gT', rfl, _, rfl⟩⟩
    have far : ∀ c' o, c' ∉ [e, it] → s.heap.get? c' = some o → g'.get? c' = some o := fun c' o n q => by
      obtain ⟨n1, n2⟩ := off2 n
      exact (but.2 c' n1).trans (rest c' o n1 n2 q)
    refine ⟨.ref s.heap.objs.size, _, I.turnedNew (t' := tk + 1) (ch := [e, it]) far free (Nat.le_refl _) pair, rfl, ⟨_, y, rfl, I.hok.fresh (Nat.le_refl _), rfl, fun l hl => by rw [I.tuple_inj hl seq]; exact hy⟩, ?_, fun c' m => ?_⟩
    · refine ⟨⟨u, ?_⟩, s1.1.at fun o q => (but.2 _ ne.symm).trans q⟩
      rw [show ((i + 1 : Nat) : Int) = (i : Int) + 1 by omega]
      exact en'
    · exact (upd_ne (Nat.ne_of_lt (st.lt c' m))).trans (free c' m).1
  done := by
    intro X e1 e2 e3 calm i pins s σ H E I free st over
    subst e1 e2 e3
    obtain ⟨ys, seq, rfl⟩ := over
    obtain ⟨us, ru, isT, _⟩ := I.tuple seq
    have quiet : X.A.in1.handled = none := I.ok.hd calm
    have size : us.toArray.size = ys.length := by rw [ru.length]; simp
    obtain ⟨old, he⟩ := st.en
    refine wpAny_pyNext_enum_endD (Draws.tuple quiet it b hb us.toArray) he ⟨?_, isT⟩ fun g rest => ⟨rfl, I.turnedL (t' := s.toks) (ch := [e, it]) (fun c o n q => rest c o (off2 n).2 q) free⟩
    rw [size]
    exact st.tup
def iEnT (K : PySem.W.Frag) (te : TE) : TI := fun σ H R => te σ H fun v H1 => ∃ b ys, v = .ref b ∧ SqT K H1 b ys ∧ R (ItEt K b) H1
theorem pi_enT {X : Cx} {d : Expr} {te : TE} {p pos tpos : Pos} {elts : List Expr} {kk : Nat} (hg : Gl X "enumerate") (hm : X.mg "enumerate" = none) (ha : PE X d te) (flat : starEach [d] X.env = (false, eval d X.env) :: starEach [] X.env := by rfl)
    (plain : (backTo pos (starEach [] X.env)).any (·.1) = false := by rfl) : PI X (.Tuple elts kk tpos) (.Call (.Name "enumerate" p) [d] [] pos) (iEnT X.K te) where
  run := fun pins s σ H R I start => by
    have one : PA X [d] (tCons te tNil) := pa_cons (hs := flat) ha pa_nil
    refine Call_ (ld_blt I hg hm PyProof.Rows.boot_enumerate (PyProof.Rows.callWith_type1 (thn (one.run pos pins s σ H (fun vs H1 => ∃ b ys, vs = [.ref b] ∧ SqT X.K H1 b ys ∧ R (ItEt X.K b) H1) I ?st) fun us s1 ⟨vs, H1, J, r, q⟩ => ?_) flat plain))
    case st =>
      show te σ H fun v H1 => ∃ b ys, [v] = [V.ref b] ∧ SqT X.K H1 b ys ∧ R (ItEt X.K b) H1
      have : (fun v H1 => ∃ b ys, v = V.ref b ∧ SqT X.K H1 b ys ∧ R (ItEt X.K b) H1) = fun v H1 => ∃ b ys, [v] = [V.ref b] ∧ SqT X.K H1 b ys ∧ R (ItEt X.K b) H1 := by
        funext v H1
        simp
      rw [← this]
      exact start
    obtain ⟨b, ys, ev, seq, go⟩ := q
    subst ev
    cases r with | cons q1 q2 => ?_
    cases q2
    cases q1
    obtain ⟨ws, _, isT, _⟩ := J.tuple seq
    have bl : b < s1.heap.objs.size := let ⟨_, ho, _⟩ := id isT; Heap.lt_size ho
    have young : ∀ j, FpOk X pins H1 (s1.heap.objs.size + j) := fun j => J.fpOk (Nat.le_add_right ..) (J.hok.fresh (Nat.le_add_right ..))
    refine callType_new F.called_enumerate (by decide) (F.typeCall_enumerate_1 _) (F.newCall_enumerate_1 _) (fun obj => F.args_object_init_2 obj _) F.entry_enumerate_new (enum1_meets (begins_tuple b ws.toArray)) ⟨show s1.heap.IsTuple b ws.toArray from isT, ?_⟩
    have size : (s1.heap.push { cls := .type "tuple_iterator", data := .fields #[.ref b, .int 0 0] }).objs.size = s1.heap.objs.size + 1 := Heap.size_push ..
    show _ ∧ _
    rw [size]
    have new := Heap.get?_push_size (s1.heap.push { cls := .type "tuple_iterator", data := .fields #[.ref b, .int 0 0] }) (o := { cls := .type "enumerate", data := .fields #[.none, .bool false, .ref s1.heap.objs.size, rawInt 0, .none, .none] }) rfl
    rw [size] at new
    refine ⟨⟨_, new, rfl⟩, wpAny_pyIter_enum new ?_⟩
    exact ⟨s1.heap.objs.size + 1, _, CountTo b (s1.heap.objs.size + 1) s1.heap.objs.size, ItEt X.K b, H1, rfl, J.kept (t' := s1.toks) fun c o q => Heap.get?_push_of_some _ (Heap.get?_push_of_some _ q), turn_enT (Nat.succ_ne_self _) (Nat.ne_of_lt bl) (Nat.ne_of_gt (Nat.lt_succ_of_lt bl)), ⟨⟨_, new⟩, ⟨_, Heap.get?_push_of_some _ (Heap.get?_push_size _ rfl), rfl, rfl⟩⟩, two (young 1) (young 0), go⟩

end KF
set_option Elab.async false
set_option linter.all false
set_option maxRecDepth 100000
set_option maxHeartbeats 4000000
namespace KF
open PySem PySem.Spec PyProof.Rows L2 Evl
/-! ### sums of tuples of bools; slices, sums, comprehensions of tuples; divmod -/
theorem pre_bools (bs : List Bool) : ∀ n, n ≤ bs.length → preSum (fun i => if bs.getD i false = true then 1 else 0) n = (upTo (fun i => bs.getD i false) n : Nat)
  | 0, _ => rfl
  | n + 1, h => by
    rw [preSum, pre_bools bs n (by omega), upTo_succ]
    split <;> simp
def rSumB (K : PySem.W.Frag) : List V → Hp → VK → Prop := fun vs H Q => ∃ (a : Addr) (bs : List Bool), vs = [V.ref a] ∧ SqT K H a (bs.map V.bl) ∧ Q (.int (cnt bs : Nat)) H
theorem call_sumB {X : Cx} (hc : X.calm = true) : CallR X (.builtin "sum") (rSumB X.K) := by
  intro pins s σ H vs us Q I r h
  obtain ⟨a, bs, rfl, hs, q⟩ := h
  obtain ⟨its, rv, ht, _⟩ := I.tuple hs
  rw [Vals.ref1 r]
  have hb := rv.bls
  have ht : s.heap.IsTuple a its.toArray := ht
  obtain ⟨o, ho, hcl, n, hd⟩ := id ht
  have hne : a ≠ s.heap.objs.size := Nat.ne_of_lt (Heap.lt_size ho)
  have hsz : its.toArray.size = bs.length := by rw [hb]; simp
  have W := (Walks.tuple (prog := X.prog) (w := X.w) (A := X.A.in1) (I.ok.hd hc) s.heap.objs.size a hne its.toArray).toS
  rw [hsz] at W
  refine call_sum_walkAnyB (wpAny_pyIter_tuple ht ?_)
  refine ⟨s.heap.objs.size, _, _, _, _, _, _, fun i => if bs.getD i false = true then 1 else 0, rfl, W, ⟨⟨_, Heap.get?_push_size _ rfl, rfl, rfl⟩, ht.at fun o e => Heap.get?_push_of_some _ e⟩, fun b hb => ?_, fun i v hP => ?_, fun s' t' hm => ?_⟩
  · rcases List.mem_cons.mp hb with rfl | hb
    · exact Heap.lt_size (Heap.get?_push_size _ rfl)
    · obtain rfl := List.mem_singleton.mp hb
      exact Heap.lt_size (Heap.get?_push_of_some _ ho)
  · have hv' : its[i]? = some v := by simpa using hP
    rw [hb, List.getElem?_map] at hv'
    obtain ⟨b, hb2, rfl⟩ := Option.map_eq_some_iff.mp hv'
    exact .inr ⟨b, rfl, by
      show (if bs.getD i false = true then (1 : Int) else 0) = _
      rw [List.getD_eq_getElem?_getD, hb2] <;> rfl⟩
  · obtain ⟨h', g', d', tk', os'⟩ := s'
    have e1 : g' = s.gens := hm.gens
    have e2 : d' = s.drawn := hm.drawn
    have e3 : os' = s.os := hm.os
    subst e1 e2 e3
    refine ⟨.int _, H, I.kept fun b o e => hm.heap b o (fun hb => absurd (Heap.lt_size e) ((List.mem_singleton.mp hb) ▸ Nat.lt_irrefl _)) (Heap.get?_push_of_some _ e), ⟨_, rfl⟩, ?_⟩
    rw [pre_bools bs _ (Nat.le_refl _), upTo_take bs _ (Nat.le_refl _), List.take_length]
    exact q
/-- a tuple, made or old -/
def EvX (te : TE) (σ : L2.St) (H : Hp) (xs : List V) : Prop := ∀ H1, Ex H H1 → ∀ Q : VK, (∀ p H2, Ex H1 H2 → H2 p = some (.tup xs) → Q (.ref p) H2) → te σ H1 Q
section
variable {σ : L2.St} {K : PySem.W.Frag} {H H' : Hp} {tx te ta tb tv : TE} {u t : TT} {v x y z : V} {r : R2} {D : Ends} {tz : TS}
theorem ew_of {p : Addr} {xs : List V} (h : Ev te σ H (.ref p)) (hp : H p = some (.tup xs)) : EvX te σ H xs := fun H1 e Q q => h H1 e _ fun H2 e2 => q p H2 e2 ((e.trans e2) _ _ hp)
theorem ew_u {xs : List V} (h : EvU te σ H xs) : EvX te σ H xs := fun H1 e Q q => h H1 e _ fun p H2 _ e2 h2 => q p H2 e2 h2
theorem ew_is {xs ys : List V} (h : EvX te σ H xs) (e : xs = ys) : EvX te σ H ys := e ▸ h
theorem cut_whole {xs : List V} {lo hi : Option Int} (h : HT.sIx xs.length 0 lo = 0 ∧ HT.sIx xs.length xs.length hi = xs.length) : cutV xs lo hi = xs := by
  unfold cutV
  rw [h.1, h.2, List.drop_zero, Nat.sub_zero, List.take_length]
/-- t[lo:hi] -/
theorem ew_sl {tl th : TO} {lo hi : Option Int} {xs : List V} (h : EvX te σ H xs) (h1 : EvO tl σ H lo) (h2 : EvO th σ H hi) : EvX (tSl (rSlA K) te tl th) σ H (cutV xs lo hi) := fun H1 e Q q =>
  h H1 e _ fun p H2 e2 hp => h1 H2 (e.trans e2) _ fun H3 e3 => h2 H3 ((e.trans e2).trans e3) _ fun H4 e4 => ⟨p, xs, rfl, st_of ((e3.trans e4) _ _ hp), fun hw => q p H4 ((e2.trans e3).trans e4) (by rw [cut_whole hw]; exact (e3.trans e4) _ _ hp), fun _ l hl => q l _ (((e2.trans e3).trans e4).trans (Ex.new hl)) upd_same⟩
/-- t + u -/
theorem ew_cat {xs ys : List V} (h1 : EvX ta σ H xs) (h2 : EvX tb σ H ys) (hz : xs.length + ys.length ≤ 100000) : EvX (tOp (rCatA K) ta tb) σ H (xs ++ ys) := fun H1 e Q q =>
  h1 H1 e _ fun p H2 e2 hp => h2 H2 (e.trans e2) _ fun l H3 e3 hl => ⟨p, l, xs, ys, rfl, rfl, st_of (e3 _ _ hp), st_of hl, sz_of hz, fun n => q l H3 (e2.trans e3) (by rw [n]; exact hl), fun _ n => q p H3 (e2.trans e3) (by rw [n, List.append_nil]; exact e3 _ _ hp), fun _ _ a ha => q a _ ((e2.trans e3).trans (Ex.new ha)) upd_same⟩
theorem ev_sumB {bs : List Bool} (h : EvX te σ H (bs.map V.bl)) : Ev (tCB (rSumB K) (tCons te tNil)) σ H (.int (cnt bs : Nat)) := fun H1 e Q q => h H1 e _ fun p H2 e2 hp => ⟨p, bs, rfl, st_of hp, q H2 e2⟩
theorem el_listW {xs : List V} (h : EvX te σ H xs) : EvL (tCB (fun xs H Q => ∃ p ys, xs = [V.ref p] ∧ (SqL K H p ys ∨ SqT K H p ys) ∧ ∀ l, H l = none → Q (.ref l) (upd H l (.lst ys))) (tCons te tNil)) σ H xs := fun H1 e Q q =>
  h H1 e _ fun p H2 e2 h2 => ⟨p, xs, rfl, .inr (st_of h2), fun l hl => q l _ (fresh_back e2 hl) (e2.trans (Ex.new hl)) upd_same⟩
theorem ev_lenW {xs : List V} (h : EvX te σ H xs) : Ev (tCB (fun xs H Q => ∃ p ys, xs = [V.ref p] ∧ (SqL K H p ys ∨ SqT K H p ys) ∧ Q (.int (ys.length : Nat)) H) (tCons te tNil)) σ H (.int (xs.length : Nat)) := fun H1 e Q q =>
  h H1 e _ fun p H2 e2 h2 => ⟨p, xs, rfl, .inr (st_of h2), q H2 e2⟩
theorem ev_lenN {xs : List V} (h : EvL te σ H xs) : Ev (tCB (fun xs H Q => ∃ p ys, xs = [V.ref p] ∧ (SqL K H p ys ∨ SqT K H p ys) ∧ Q (.int (ys.length : Nat)) H) (tCons te tNil)) σ H (.int (xs.length : Nat)) := fun H1 e Q q =>
  h H1 e _ fun p H2 _ e2 h2 => ⟨p, xs, rfl, .inl (sq_of h2), q H2 e2⟩
/-- a comprehension over a tuple, made or old -/
theorem el_lcW {xs : List V} {tl : TE} {j : Nat} {vs : List Nat} (f : Nat → Bool) (v : Nat → V) (h : EvX tl σ H xs) (hz : xs.length ≤ 40000) (hw : ∀ x, wipe ((wipe σ vs).set j (some x)) vs = wipe σ vs)
    (ht : ∀ (i : Nat) (x : V) H1, Ex H H1 → xs[i]? = some x → EvT t ((wipe σ vs).set j (some x)) H1 (f i)) (he : ∀ (i : Nat) (x : V) H1, Ex H H1 → xs[i]? = some x → f i = true → Ev te ((wipe σ vs).set j (some x)) H1 (v i)) :
    EvL (tLc (iTup K tl) (gName j) t te vs) σ H (given xs.length f v) := fun H0 e Q q => h H0 e _ fun a H1 e1 hx => ⟨a, rfl, ⟨xs, st_of hx⟩, fun Dl hD =>
  lc_tup (xs := xs) (Cw H1 f v Dl) ⟨hD, Ex.new hD, upd_same⟩ (fun i H' _ p => st_of (p.2.1 _ _ hx)) (fun i x H' hi p => ⟨hw x, cw_turn p (by have := (List.getElem?_eq_some_iff.mp hi).1; omega) (ht i x H1 (e.trans e1) hi) (fun hf => he i x H1 (e.trans e1) hi hf)⟩)
    (fun H' p => q Dl H' (fresh_back e1 p.1) (e1.trans p.2.1) p.2.2)⟩
/-- a comprehension over enumerate(tuple) -/
theorem el_lcEn {b : Addr} {ys : List V} {tl : TE} {i1 i2 : Nat} {vs : List Nat} (f : Nat → Bool) (v : Nat → V) (h : Ev tl σ H (.ref b)) (hb : SqT K H b ys) (hz : ys.length ≤ 40000)
    (hw : ∀ x y, wipe (((wipe σ vs).set i1 (some x)).set i2 (some y)) vs = wipe σ vs)
    (ht : ∀ (i : Nat) (y : V) H1, Ex H H1 → ys[i]? = some y → EvT t (((wipe σ vs).set i1 (some (.int (i : Nat)))).set i2 (some y)) H1 (f i)) (he : ∀ (i : Nat) (y : V) H1, Ex H H1 → ys[i]? = some y → f i = true → Ev te (((wipe σ vs).set i1 (some (.int (i : Nat)))).set i2 (some y)) H1 (v i)) :
    EvL (tLc (iEnT K tl) (gTup K 2 (gCons (gName i1) (gCons (gName i2) gNil))) t te vs) σ H (given ys.length f v) := fun H0 e Q q => h H0 e _ fun H1 e1 => ⟨b, ys, rfl, ex_t (e.trans e1) hb, fun Dl hD =>
  ⟨fun i m H' => m = ys.length - i ∧ i ≤ ys.length ∧ Cw H1 f v Dl i H', ⟨ys.length, by simp, Nat.zero_le _, hD, Ex.new hD, upd_same⟩, by
    rintro i m H' ⟨rfl, hi, p⟩
    have hb' : SqT K H' b ys := ex_t ((e.trans e1).trans p.2.1) hb
    by_cases hlt : i < ys.length
    · refine .inr ⟨⟨ys, ys[i], hb', by simp [hlt]⟩, Cw H1 f v Dl (i + 1), fun H2 p' => ⟨ys.length - (i + 1), by omega, rfl, hlt, p'⟩, ?_⟩
      rintro x H2 ⟨T, y, rfl, hT, rfl, hy⟩
      have hy' := hy ys hb'
      have e2 : Ex H' (upd H' T (.tup [.int (i : Nat), y])) := Ex.new hT
      have p' : Cw H1 f v Dl i (upd H' T (.tup [.int (i : Nat), y])) := ⟨p.1, p.2.1.trans e2, e2 _ _ p.2.2⟩
      exact ⟨T, _, rfl, st_of upd_same, rfl, _, _, rfl, _, _, rfl, rfl, hw _ _, cw_turn p' (by omega) (ht i y H1 (e.trans e1) hy') (fun hf => he i y H1 (e.trans e1) hy' hf)⟩
    · have e2 : i = ys.length := by omega
      subst e2
      exact .inl ⟨⟨ys, hb', rfl⟩, q Dl H' (fresh_back e1 p.1) (e1.trans p.2.1) p.2.2⟩⟩⟩
/-- a, b = divmod(x, y) -/
theorem q_divmod {i j : Nat} {a b : Int} (h1 : Ev ta σ H (.int a)) (h2 : Ev tb σ H (.int b)) (h0 : 0 < b) (hb : b < 1073741824) (k : ∀ H1, Ex H H1 → tz D ((σ.set i (some (.int (a / b)))).set j (some (.int (a % b)))) H1) :
    tSeq (tAsg (tCB (fun xs H Q => ∃ i j, xs = [V.int i, V.int j] ∧ CDiv i j ∧ ∀ p, H p = none → Q (.ref p) (upd H p (.tup [.int (i / j), .int (i % j)]))) (tCons ta (tCons tb tNil))) (gTup K 2 (gCons (gName i) (gCons (gName j) gNil)))) tz D σ H :=
  h1 H (Ex.refl H) _ fun H1 e1 => h2 H1 e1 _ fun H2 e2 => ⟨a, b, rfl, ⟨h0, hb⟩, fun p hp => ⟨p, _, rfl, st_of upd_same, rfl, _, _, rfl, _, _, rfl, rfl, k _ ((e1.trans e2).trans (Ex.new hp))⟩⟩
end
/-! ### tuples of bools as data -/
theorem dp_bools {K : PySem.W.Frag} {H : Hp} : ∀ bs : List Bool, DpAll K H (bs.map V.bl) (bs.map PyData.bool)
  | [] => .nil
  | b :: bs => .cons (.bl b) (dp_bools bs)
theorem vals_flat : ∀ bs : List Bool, (bs.map V.bl).all flatV = true
  | [] => rfl
  | _ :: bs => vals_flat bs
theorem true_in : ∀ bs : List Bool, inV (.bl true) (bs.map V.bl) = decide (0 < cnt bs)
  | [] => rfl
  | b :: bs => by
    have ih := true_in bs
    unfold inV at ih ⊢
    rw [List.map_cons, List.any_cons, ih]
    cases b with
    | true => simp [cnt, eqV]
    | false => simp [cnt, eqV]
theorem eqv_bools : ∀ xs ys : List Bool, PyData.eqvAll (xs.map PyData.bool) (ys.map PyData.bool) = decide (xs = ys)
  | [], [] => by simp [PyData.eqvAll]
  | [], _ :: _ => by simp [PyData.eqvAll]
  | _ :: _, [] => by simp [PyData.eqvAll]
  | x :: xs, y :: ys => by
    simp only [List.map_cons, PyData.eqvAll, eqv_bools xs ys]
    cases x <;> cases y <;> simp [PyData.eqv]
end KF
set_option Elab.async false
set_option linter.all false
set_option maxRecDepth 100000
set_option maxHeartbeats 4000000
namespace KF
open PySem PySem.Spec PyProof.Rows L2 Evl
theorem lay_bools : ∀ bs : List Bool, PyData.canLayAll0 (bs.map PyData.bool) = true
  | [] => by simp [PyData.canLayAll0]
  | b :: bs => by simp [PyData.canLayAll0, PyData.canLay0, lay_bools bs]
theorem depth_bools : ∀ bs : List Bool, PyData.depthAll (bs.map PyData.bool) = 0
  | [] => by simp [PyData.depthAll]
  | b :: bs => by simp [PyData.depthAll, PyData.depth, depth_bools bs]
theorem weight_bools : ∀ bs : List Bool, PyData.weightAll (bs.map PyData.bool) ≤ 2 * bs.length
  | [] => by simp [PyData.weightAll]
  | b :: bs => by
    have := weight_bools bs
    simp only [List.map_cons, PyData.weightAll, PyData.weight, List.length_cons]
    omega
theorem show_bools : ∀ bs : List Bool, PyData.showableAll (bs.map PyData.bool) = true
  | [] => by simp [PyData.showableAll]
  | b :: bs => by simp [PyData.showableAll, PyData.showable, show_bools bs]
theorem nodict_bools : ∀ bs : List Bool, PyData.hasDictAll (bs.map PyData.bool) = false
  | [] => by simp [PyData.hasDictAll]
  | b :: bs => by simp [PyData.hasDictAll, PyData.hasDict, nodict_bools bs]
theorem shaped_tup (bs : List Bool) : SeqAt.shaped (.tuple (bs.map PyData.bool)) = true := by
  unfold SeqAt.shaped
  simp [PyData.canLay0, PyData.depth, lay_bools, depth_bools]
def partD (l p : Nat) (bs : List Bool) : PyData := .list [.int (l : Nat), .int (p : Nat), .tuple (bs.map PyData.bool)]
theorem log_small {n : Nat} (h : n < 1000) : ((n : Nat) : Int).natAbs.log2 < 1920 := by
  have e : ((n : Nat) : Int).natAbs = n := Int.natAbs_natCast n
  rw [e]
  by_cases z : n = 0
  · subst z; decide
  · exact Nat.lt_trans ((Nat.log2_lt z).mpr (Nat.lt_trans h (by decide : 1000 < 2 ^ 10))) (by decide)
theorem part_fits {l p : Nat} {bs : List Bool} (hl : l < 1000) (hp : p < 1000) (hb : bs.length ≤ 100) : (partD l p bs).showable = true ∧ (partD l p bs).hasDict = false ∧ (partD l p bs).depth ≤ 60 ∧ (partD l p bs).shown.length ≤ sizeLine := by
  have s1 := log_small hl
  have s2 := log_small hp
  refine ⟨?_, ?_, ?_, ?_⟩
  · unfold partD
    simp only [PyData.showable, PyData.showableAll, show_bools, Bool.and_true, Bool.and_eq_true, decide_eq_true_eq]
    exact ⟨s1, s2⟩
  · unfold partD
    simp [PyData.hasDict, PyData.hasDictAll, nodict_bools]
  · unfold partD
    simp [PyData.depth, PyData.depthAll, depth_bools]
  · refine PyData.shown_fits_of_layable0 (B := 13) (by decide) (by decide) ?_ ?_
    · unfold partD PyData.layable0
      have w := weight_bools bs
      simp only [PyData.canLay0, PyData.canLayAll0, PyData.depth, PyData.depthAll, PyData.weight, PyData.weightAll, lay_bools, depth_bools, Bool.and_true, Bool.true_and, Bool.and_eq_true, decide_eq_true_eq]
      refine ⟨by decide, ?_⟩
      refine decide_eq_true ?_
      have z : (2 : Nat) ^ 20 = 1048576 := by decide
      rw [z]
      split <;> split <;> omega
    · unfold partD
      have i1 : (PyData.shown (.int (l : Nat))).length ≤ 13 := PyData.shown_int_le (by rw [Int.natAbs_natCast]; exact Nat.lt_trans hl (by decide))
      have i2 : (PyData.shown (.int (p : Nat))).length ≤ 13 := PyData.shown_int_le (by rw [Int.natAbs_natCast]; exact Nat.lt_trans hp (by decide))
      simp only [PyData.intsShort, PyData.intsShortAll, PyData.intsShortAll_bools, Bool.and_true, Bool.true_and, Bool.and_eq_true, decide_eq_true_eq]
      exact ⟨i1, i2⟩
def pairD (b : Bool) (n : Nat) : PyData := .list [.bool b, .int (n : Nat)]
theorem pair_fits : ∀ (b : Bool) (n : Nat), n < 61 → (pairD b n).showable = true ∧ (pairD b n).hasDict = false ∧ (pairD b n).depth ≤ 60 ∧ (pairD b n).shown.length ≤ sizeLine := by
  have h : ∀ b : Bool, ((List.range 61).all fun n => decide ((pairD b n).showable = true ∧ (pairD b n).hasDict = false ∧ (pairD b n).depth ≤ 60 ∧ (pairD b n).shown.length ≤ 1000)) = true := by decide +kernel
  intro b n hn
  obtain ⟨h1, h2, h3, h4⟩ := of_decide_eq_true (all_nat (h b) n hn)
  exact ⟨h1, h2, h3, Nat.le_trans h4 (by decide)⟩
end KF
set_option Elab.async false
set_option linter.all false
set_option maxRecDepth 100000
set_option maxHeartbeats 4000000
namespace KF
open PySem L2
def top (i : Nat) : Stmt := PySem.Challenge.pw_modesdown_k60_beats_made.main.body.getD i (.Pass ⟨0, 0, 0, 0⟩)
abbrev s_is_whole : Stmt := top 1
abbrev s_BadBeatD_initD : Stmt := inClass (top 5) 0
abbrev s_BeatD_initD : Stmt := inClass (top 7) 0
abbrev s_Beat_lead : Stmt := inClass (top 7) 1
abbrev s_Beat_period : Stmt := inClass (top 7) 2
abbrev s_Beat_answers : Stmt := inClass (top 7) 3
abbrev s_BeatD_callD : Stmt := inClass (top 7) 4
abbrev s_Beat_through : Stmt := inClass (top 7) 5
abbrev s_Beat_nth : Stmt := inClass (top 7) 6
abbrev s_BeatD_eqD : Stmt := inClass (top 7) 7
abbrev s_place_of : Stmt := top 8
abbrev s__law_pen : Stmt := top 10
abbrev s__law_draw : Stmt := top 11
abbrev s__law_pick : Stmt := top 12
abbrev s__law_part : Stmt := top 13
abbrev s__law_refused_right : Stmt := top 14
abbrev s__law_near_right : Stmt := top 15
abbrev s__law_far_right : Stmt := top 16
abbrev s_law : Stmt := top 17
abbrev n_is_whole : List Str := ["value"]
theorem sc_is_whole : FnScope n_is_whole ["value"] (defScope s_is_whole) := ⟨rfl, rfl, rfl, by decide +kernel, rfl, by decide +kernel, by decide +kernel⟩
abbrev n_BadBeatD_initD : List Str := ["self", "part"]
theorem sc_BadBeatD_initD : FnScope n_BadBeatD_initD ["self", "part"] (defScope s_BadBeatD_initD) := ⟨rfl, rfl, rfl, by decide +kernel, rfl, by decide +kernel, by decide +kernel⟩
abbrev n_BeatD_initD : List Str := ["self", "lead", "period", "answers", "answer"]
theorem sc_BeatD_initD : FnScope n_BeatD_initD ["self", "lead", "period", "answers"] (defScope s_BeatD_initD) := ⟨rfl, rfl, rfl, by decide +kernel, rfl, by decide +kernel, by decide +kernel⟩
abbrev n_Beat_lead : List Str := ["self"]
theorem sc_Beat_lead : FnScope n_Beat_lead ["self"] (defScope s_Beat_lead) := ⟨rfl, rfl, rfl, by decide +kernel, rfl, by decide +kernel, by decide +kernel⟩
abbrev n_Beat_period : List Str := ["self"]
theorem sc_Beat_period : FnScope n_Beat_period ["self"] (defScope s_Beat_period) := ⟨rfl, rfl, rfl, by decide +kernel, rfl, by decide +kernel, by decide +kernel⟩
abbrev n_Beat_answers : List Str := ["self"]
theorem sc_Beat_answers : FnScope n_Beat_answers ["self"] (defScope s_Beat_answers) := ⟨rfl, rfl, rfl, by decide +kernel, rfl, by decide +kernel, by decide +kernel⟩
abbrev n_BeatD_callD : List Str := ["self", "c"]
theorem sc_BeatD_callD : FnScope n_BeatD_callD ["self", "c"] (defScope s_BeatD_callD) := ⟨rfl, rfl, rfl, by decide +kernel, rfl, by decide +kernel, by decide +kernel⟩
abbrev n_Beat_through : List Str := ["self", "c", "turns", "rest", "again"]
theorem sc_Beat_through : FnScope n_Beat_through ["self", "c"] (defScope s_Beat_through) := ⟨rfl, rfl, rfl, by decide +kernel, rfl, by decide +kernel, by decide +kernel⟩
abbrev n_Beat_nth : List Str := ["self", "k", "at", "going", "again", "turns", "answer", "c"]
theorem sc_Beat_nth : FnScope n_Beat_nth ["self", "k"] (defScope s_Beat_nth) := ⟨rfl, rfl, rfl, by decide +kernel, rfl, by decide +kernel, by decide +kernel⟩
abbrev n_BeatD_eqD : List Str := ["self", "other"]
theorem sc_BeatD_eqD : FnScope n_BeatD_eqD ["self", "other"] (defScope s_BeatD_eqD) := ⟨rfl, rfl, rfl, by decide +kernel, rfl, by decide +kernel, by decide +kernel⟩
abbrev n_place_of : List Str := ["at", "lead", "period"]
theorem sc_place_of : FnScope n_place_of ["at", "lead", "period"] (defScope s_place_of) := ⟨rfl, rfl, rfl, by decide +kernel, rfl, by decide +kernel, by decide +kernel⟩
abbrev n__law_pen : List Str := ["_law_script"]
theorem sc__law_pen : FnScope n__law_pen ["_law_script"] (defScope s__law_pen) := ⟨rfl, rfl, rfl, by decide +kernel, rfl, by decide +kernel, by decide +kernel⟩
abbrev n__law_draw : List Str := ["_law_pen_here", "_law_many", "_law_digit", "_law_at", "_law_cell", "_law_great", "_law_mixed"]
theorem sc__law_draw : FnScope n__law_draw ["_law_pen_here", "_law_many"] (defScope s__law_draw) := ⟨rfl, rfl, rfl, by decide +kernel, rfl, by decide +kernel, by decide +kernel⟩
abbrev n__law_pick : List Str := ["_law_pen_here", "_law_some"]
theorem sc__law_pick : FnScope n__law_pick ["_law_pen_here", "_law_some"] (defScope s__law_pick) := ⟨rfl, rfl, rfl, by decide +kernel, rfl, by decide +kernel, by decide +kernel⟩
abbrev n__law_part : List Str := ["_law_ask", "_law_caught", "error"]
theorem sc__law_part : FnScope n__law_part ["_law_ask"] (defScope s__law_part) := ⟨rfl, rfl, rfl, by decide +kernel, rfl, by decide +kernel, by decide +kernel⟩
abbrev n__law_refused_right : List Str := ["_law_pen_here", "_law_lead", "_law_period", "_law_answers", "_law_some", "_law_found", "_law_odd_answers", "_law_odd_lead", "_law_odd_period"]
theorem sc__law_refused_right : FnScope n__law_refused_right ["_law_pen_here", "_law_lead", "_law_period", "_law_answers"] (defScope s__law_refused_right) := ⟨rfl, rfl, rfl, by decide +kernel, rfl, by decide +kernel, by decide +kernel⟩
abbrev n__law_near_right : List Str := ["_law_beat", "_law_lead", "_law_period", "_law_answers", "_law_goes", "_law_places", "_law_coming", "_law_spot"]
theorem sc__law_near_right : FnScope n__law_near_right ["_law_beat", "_law_lead", "_law_period", "_law_answers"] (defScope s__law_near_right) := ⟨rfl, rfl, rfl, by decide +kernel, rfl, by decide +kernel, by decide +kernel⟩
abbrev n__law_far_right : List Str := ["_law_pen_here", "_law_beat", "_law_lead", "_law_period", "_law_answers", "_law_turns", "_law_each", "_law_coming", "_law_late", "_law_number", "_law_found", "_law_one"]
theorem sc__law_far_right : FnScope n__law_far_right ["_law_pen_here", "_law_beat", "_law_lead", "_law_period", "_law_answers"] (defScope s__law_far_right) := ⟨rfl, rfl, rfl, by decide +kernel, rfl, by decide +kernel, by decide +kernel⟩
abbrev n_law : List Str := ["_law_script", "_law_pen_here", "_law_turn", "_law_lead", "_law_period", "_law_answers", "_law_beat", "_law_other", "_law_spot"]
theorem sc_law : FnScope n_law ["_law_script"] (defScope s_law) := ⟨rfl, rfl, rfl, by decide +kernel, rfl, by decide +kernel, by decide +kernel⟩
end KF
set_option Elab.async false
set_option linter.all false
set_option maxRecDepth 100000
set_option maxHeartbeats 4000000
namespace KF
open PySem PySem.Spec PyProof.Rows L2 Evl
structure Ads where
  f_is_whole : Addr
  d_is_whole : FuncData
  f_place_of : Addr
  d_place_of : FuncData
  f__law_pen : Addr
  d__law_pen : FuncData
  f__law_draw : Addr
  d__law_draw : FuncData
  f__law_pick : Addr
  d__law_pick : FuncData
  f__law_part : Addr
  d__law_part : FuncData
  f__law_refused_right : Addr
  d__law_refused_right : FuncData
  f__law_near_right : Addr
  d__law_near_right : FuncData
  f__law_far_right : Addr
  d__law_far_right : FuncData
  f_Beat : Addr
  f_BeatD_initD : Addr
  d_BeatD_initD : FuncData
  f_Beat_lead : Addr
  d_Beat_lead : FuncData
  p_Beat_lead : Addr
  f_Beat_period : Addr
  d_Beat_period : FuncData
  p_Beat_period : Addr
  f_Beat_answers : Addr
  d_Beat_answers : FuncData
  p_Beat_answers : Addr
  f_Beat_through : Addr
  d_Beat_through : FuncData
  f_Beat_nth : Addr
  d_Beat_nth : FuncData
  f_BeatD_eqD : Addr
  d_BeatD_eqD : FuncData
  f_BeatD_callD : Addr
  d_BeatD_callD : FuncData
  x_BadBeat : Addr
  x_ModesError : Addr
  f_BadBeatD_initD : Addr
  d_BadBeatD_initD : FuncData
  cR : Addr
  PR : Addr
structure Txt (w : World) (K : PySem.W.Frag) (mg : Str → Option Value) (a : Ads) : Prop where
  b_ValueError : mg "ValueError" = none
  b_isinstance : mg "isinstance" = none
  b_int : mg "int" = none
  b_bool : mg "bool" = none
  b_tuple : mg "tuple" = none
  b_list : mg "list" = none
  b_len : mg "len" = none
  b_all : mg "all" = none
  b_sum : mg "sum" = none
  b_divmod : mg "divmod" = none
  b_enumerate : mg "enumerate" = none
  b_range : mg "range" = none
  b_abs : mg "abs" = none
  b_repr : mg "repr" = none
  mg_is_whole : mg "is_whole" = some (.ref a.f_is_whole)
  fn_is_whole : Fun K "is_whole" "is_whole" s_is_whole a.f_is_whole a.d_is_whole
  mg_place_of : mg "place_of" = some (.ref a.f_place_of)
  fn_place_of : Fun K "place_of" "place_of" s_place_of a.f_place_of a.d_place_of
  mg__law_pen : mg "_law_pen" = some (.ref a.f__law_pen)
  fn__law_pen : Fun K "_law_pen" "_law_pen" s__law_pen a.f__law_pen a.d__law_pen
  mg__law_draw : mg "_law_draw" = some (.ref a.f__law_draw)
  fn__law_draw : Fun K "_law_draw" "_law_draw" s__law_draw a.f__law_draw a.d__law_draw
  mg__law_pick : mg "_law_pick" = some (.ref a.f__law_pick)
  fn__law_pick : Fun K "_law_pick" "_law_pick" s__law_pick a.f__law_pick a.d__law_pick
  mg__law_part : mg "_law_part" = some (.ref a.f__law_part)
  fn__law_part : Fun K "_law_part" "_law_part" s__law_part a.f__law_part a.d__law_part
  mg__law_refused_right : mg "_law_refused_right" = some (.ref a.f__law_refused_right)
  fn__law_refused_right : Fun K "_law_refused_right" "_law_refused_right" s__law_refused_right a.f__law_refused_right a.d__law_refused_right
  mg__law_near_right : mg "_law_near_right" = some (.ref a.f__law_near_right)
  fn__law_near_right : Fun K "_law_near_right" "_law_near_right" s__law_near_right a.f__law_near_right a.d__law_near_right
  mg__law_far_right : mg "_law_far_right" = some (.ref a.f__law_far_right)
  fn__law_far_right : Fun K "_law_far_right" "_law_far_right" s__law_far_right a.f__law_far_right a.d__law_far_right
  mg_Beat : mg "Beat" = some (.ref a.f_Beat)
  c_Beat : Cls K a.f_Beat
  n_lead_Beat : NoAttr K a.f_Beat "_lead"
  n_period_Beat : NoAttr K a.f_Beat "_period"
  n_answers_Beat : NoAttr K a.f_Beat "_answers"
  mk_Beat : Mk K a.f_Beat a.f_BeatD_initD
  fn_BeatD_initD : Fun K "__init__" "Beat.__init__" s_BeatD_initD a.f_BeatD_initD a.d_BeatD_initD
  p_Beat_lead : PropOf K a.f_Beat "lead" a.p_Beat_lead a.f_Beat_lead
  fn_Beat_lead : Fun K "lead" "Beat.lead" s_Beat_lead a.f_Beat_lead a.d_Beat_lead
  p_Beat_period : PropOf K a.f_Beat "period" a.p_Beat_period a.f_Beat_period
  fn_Beat_period : Fun K "period" "Beat.period" s_Beat_period a.f_Beat_period a.d_Beat_period
  p_Beat_answers : PropOf K a.f_Beat "answers" a.p_Beat_answers a.f_Beat_answers
  fn_Beat_answers : Fun K "answers" "Beat.answers" s_Beat_answers a.f_Beat_answers a.d_Beat_answers
  m_Beat_through : Meth K a.f_Beat "through" a.f_Beat_through
  fn_Beat_through : Fun K "through" "Beat.through" s_Beat_through a.f_Beat_through a.d_Beat_through
  m_Beat_nth : Meth K a.f_Beat "nth" a.f_Beat_nth
  fn_Beat_nth : Fun K "nth" "Beat.nth" s_Beat_nth a.f_Beat_nth a.d_Beat_nth
  m_BeatD_eqD : Meth K a.f_Beat "__eq__" a.f_BeatD_eqD
  fn_BeatD_eqD : Fun K "__eq__" "Beat.__eq__" s_BeatD_eqD a.f_BeatD_eqD a.d_BeatD_eqD
  o_Beat : StX.CallO K a.f_Beat a.f_BeatD_callD
  fn_BeatD_callD : Fun K "__call__" "Beat.__call__" s_BeatD_callD a.f_BeatD_callD a.d_BeatD_callD
  ia_Beat : PySem.W.findIn K (.ref a.f_Beat) "__class__" = some (some (.builtin "object.__class__"))
  im_Beat : PySem.W.mroIn K a.f_Beat (.type "object") = some true
  is_Beat : PySem.W.kitOne K (.ref a.f_Beat) (.ref a.f_Beat) = some true
  ne_Beat : PySem.W.findIn K (.ref a.f_Beat) "__ne__" = some (some (.builtin "object.__ne__"))
  nf_Beat : PySem.W.notFirst K a.f_Beat (.ref a.f_Beat) = true
  nf_Beat_tuple : PySem.W.notFirst K a.f_Beat (.type "tuple") = true
  nt_Beat_tuple : PySem.W.kitOne K (.type "tuple") (.ref a.f_Beat) = some false
  in_ : PySem.W.specialIn K (.builtin "object.__class__") "__get__" = some (some (.builtin "getset_descriptor.__get__"))
  it_ : PySem.W.takesIn K (.builtin "object.__class__") = some true
  mg_BadBeat : mg "BadBeat" = some (.ref a.x_BadBeat)
  mg_ModesError : mg "ModesError" = some (.ref a.x_ModesError)
  ks_BadBeat : PySem.W.kitOne K (.ref a.x_BadBeat) (.ref a.x_BadBeat) = some true
  ks_ValueError : PySem.W.kitOne K (.ref a.x_BadBeat) (.type "ValueError") = some true
  ec_BadBeat : ExcC K a.x_BadBeat
  ox_BadBeat : OexC K a.x_BadBeat
  ic_BadBeat : PySem.W.findIn K (.ref a.x_BadBeat) "__init__" = some (some (.ref a.f_BadBeatD_initD))
  it_BadBeat : PySem.W.typeIn K (.ref a.f_BadBeatD_initD) = some (.type "function")
  fn_BadBeatD_initD : Fun K "__init__" "BadBeat.__init__" s_BadBeatD_initD a.f_BadBeatD_initD a.d_BadBeatD_initD
  np_BadBeat : PySem.W.findIn K (.ref a.x_BadBeat) "part" = some none
  em_BadBeat : PySem.W.exmOne K (.ref a.x_BadBeat) (.ref a.x_ModesError) = some true
  cr : ∃ oc od kV doc pm an ct osl, a.d__law_refused_right = PySem.W.fnOf "_law_refused_right" "_law_refused_right" (defArgs s__law_refused_right) (defBody s__law_refused_right) (defScope s__law_refused_right) .none kV doc pm an (.ref a.cR) ct ∧ K.lookup a.f__law_refused_right = some ⟨oc, od, .func a.d__law_refused_right, osl⟩
  cr_code : PySem.W.codeIn K (.ref a.cR) "_law_refused_right" = true
theorem bd_is_whole {w : World} {K : PySem.W.Frag} {mg : Str → Option Value} {a : Ads} (T : Txt w K mg a) : Binds K a.d_is_whole ["value"] [] := T.fn_is_whole.binds (ps := ["value"]) fun _ _ _ _ _ _ us hl => match us, hl with | [_], _ => rfl
theorem bd_place_of {w : World} {K : PySem.W.Frag} {mg : Str → Option Value} {a : Ads} (T : Txt w K mg a) : Binds K a.d_place_of ["at", "lead", "period"] [] := T.fn_place_of.binds (ps := ["at", "lead", "period"]) fun _ _ _ _ _ _ us hl => match us, hl with | [_, _, _], _ => rfl
theorem bd__law_pen {w : World} {K : PySem.W.Frag} {mg : Str → Option Value} {a : Ads} (T : Txt w K mg a) : Binds K a.d__law_pen ["_law_script"] [] := T.fn__law_pen.binds (ps := ["_law_script"]) fun _ _ _ _ _ _ us hl => match us, hl with | [_], _ => rfl
theorem bd__law_draw {w : World} {K : PySem.W.Frag} {mg : Str → Option Value} {a : Ads} (T : Txt w K mg a) : Binds K a.d__law_draw ["_law_pen_here", "_law_many"] [] := T.fn__law_draw.binds (ps := ["_law_pen_here", "_law_many"]) fun _ _ _ _ _ _ us hl => match us, hl with | [_, _], _ => rfl
theorem bd__law_pick {w : World} {K : PySem.W.Frag} {mg : Str → Option Value} {a : Ads} (T : Txt w K mg a) : Binds K a.d__law_pick ["_law_pen_here", "_law_some"] [] := T.fn__law_pick.binds (ps := ["_law_pen_here", "_law_some"]) fun _ _ _ _ _ _ us hl => match us, hl with | [_, _], _ => rfl
theorem bd__law_part {w : World} {K : PySem.W.Frag} {mg : Str → Option Value} {a : Ads} (T : Txt w K mg a) : Binds K a.d__law_part ["_law_ask"] [] := T.fn__law_part.binds (ps := ["_law_ask"]) fun _ _ _ _ _ _ us hl => match us, hl with | [_], _ => rfl
theorem bd__law_refused_right {w : World} {K : PySem.W.Frag} {mg : Str → Option Value} {a : Ads} (T : Txt w K mg a) : Binds K a.d__law_refused_right ["_law_pen_here", "_law_lead", "_law_period", "_law_answers"] [] := T.fn__law_refused_right.binds (ps := ["_law_pen_here", "_law_lead", "_law_period", "_law_answers"]) fun _ _ _ _ _ _ us hl => match us, hl with | [_, _, _, _], _ => rfl
theorem bd__law_near_right {w : World} {K : PySem.W.Frag} {mg : Str → Option Value} {a : Ads} (T : Txt w K mg a) : Binds K a.d__law_near_right ["_law_beat", "_law_lead", "_law_period", "_law_answers"] [] := T.fn__law_near_right.binds (ps := ["_law_beat", "_law_lead", "_law_period", "_law_answers"]) fun _ _ _ _ _ _ us hl => match us, hl with | [_, _, _, _], _ => rfl
theorem bd__law_far_right {w : World} {K : PySem.W.Frag} {mg : Str → Option Value} {a : Ads} (T : Txt w K mg a) : Binds K a.d__law_far_right ["_law_pen_here", "_law_beat", "_law_lead", "_law_period", "_law_answers"] [] := T.fn__law_far_right.binds (ps := ["_law_pen_here", "_law_beat", "_law_lead", "_law_period", "_law_answers"]) fun _ _ _ _ _ _ us hl => match us, hl with | [_, _, _, _, _], _ => rfl
theorem bd_BeatD_initD {w : World} {K : PySem.W.Frag} {mg : Str → Option Value} {a : Ads} (T : Txt w K mg a) : Binds K a.d_BeatD_initD ["self", "lead", "period", "answers"] [] := T.fn_BeatD_initD.binds (ps := ["self", "lead", "period", "answers"]) fun _ _ _ _ _ _ us hl => match us, hl with | [_, _, _, _], _ => rfl
theorem bd_Beat_lead {w : World} {K : PySem.W.Frag} {mg : Str → Option Value} {a : Ads} (T : Txt w K mg a) : Binds K a.d_Beat_lead ["self"] [] := T.fn_Beat_lead.binds (ps := ["self"]) fun _ _ _ _ _ _ us hl => match us, hl with | [_], _ => rfl
theorem bd_Beat_period {w : World} {K : PySem.W.Frag} {mg : Str → Option Value} {a : Ads} (T : Txt w K mg a) : Binds K a.d_Beat_period ["self"] [] := T.fn_Beat_period.binds (ps := ["self"]) fun _ _ _ _ _ _ us hl => match us, hl with | [_], _ => rfl
theorem bd_Beat_answers {w : World} {K : PySem.W.Frag} {mg : Str → Option Value} {a : Ads} (T : Txt w K mg a) : Binds K a.d_Beat_answers ["self"] [] := T.fn_Beat_answers.binds (ps := ["self"]) fun _ _ _ _ _ _ us hl => match us, hl with | [_], _ => rfl
theorem bd_Beat_through {w : World} {K : PySem.W.Frag} {mg : Str → Option Value} {a : Ads} (T : Txt w K mg a) : Binds K a.d_Beat_through ["self", "c"] [] := T.fn_Beat_through.binds (ps := ["self", "c"]) fun _ _ _ _ _ _ us hl => match us, hl with | [_, _], _ => rfl
theorem bd_Beat_nth {w : World} {K : PySem.W.Frag} {mg : Str → Option Value} {a : Ads} (T : Txt w K mg a) : Binds K a.d_Beat_nth ["self", "k"] [] := T.fn_Beat_nth.binds (ps := ["self", "k"]) fun _ _ _ _ _ _ us hl => match us, hl with | [_, _], _ => rfl
theorem bd_BeatD_eqD {w : World} {K : PySem.W.Frag} {mg : Str → Option Value} {a : Ads} (T : Txt w K mg a) : Binds K a.d_BeatD_eqD ["self", "other"] [] := T.fn_BeatD_eqD.binds (ps := ["self", "other"]) fun _ _ _ _ _ _ us hl => match us, hl with | [_, _], _ => rfl
theorem bd_BeatD_callD {w : World} {K : PySem.W.Frag} {mg : Str → Option Value} {a : Ads} (T : Txt w K mg a) : Binds K a.d_BeatD_callD ["self", "c"] [] := T.fn_BeatD_callD.binds (ps := ["self", "c"]) fun _ _ _ _ _ _ us hl => match us, hl with | [_, _], _ => rfl
theorem bd_BadBeatD_initD {w : World} {K : PySem.W.Frag} {mg : Str → Option Value} {a : Ads} (T : Txt w K mg a) : Binds K a.d_BadBeatD_initD ["self", "part"] [] := T.fn_BadBeatD_initD.binds (ps := ["self", "part"]) fun _ _ _ _ _ _ us hl => match us, hl with | [_, _], _ => rfl
end KF
set_option Elab.async false
set_option linter.all false
set_option maxRecDepth 100000
set_option maxHeartbeats 4000000
namespace KF
open PySem PySem.Spec PyProof.Rows L2 Evl
local macro_rules | `(tactic| walk_at "ev") => `(tactic| repeat' (first | exact ev_c | exact ev_var rfl | exact rv_I0 | refine' rv_I ?_ | refine' rv_eq ?_ | refine' rv_ne ?_ | refine' ev_op ?_ ?_ ?_ | exact ea_nil | refine' ea_cons ?_ ?_ | refine' et_test ?_ | refine' et_B ?_ | refine' et_not ?_ | refine' ev_notV ?_))

open PySem
/-! ### what is whole; places; a beat is made -/
/-- a type that is no whole number, or a number below m -/
def BadN (K : PySem.W.Frag) (H : Hp) (x : V) (m : Int) : Prop := (∃ (t : String) (b1 b2 : Bool), TyE K H x t ∧ kitB t "int" = some b1 ∧ kitB t "bool" = some b2 ∧ (b1 && !b2) = false) ∨ ∃ i : Int, x = .int i ∧ i < m
theorem BadN.mono {K : PySem.W.Frag} {H H' : Hp} {x : V} {m : Int} (h : BadN K H x m) (e : Ex H H') : BadN K H' x m := by
  rcases h with ⟨t, b1, b2, ty, h1, h2, h3⟩ | h
  · exact .inl ⟨t, b1, b2, fun H1 e1 => ty H1 (e.trans e1), h1, h2, h3⟩
  · exact .inr h
def BadA (K : PySem.W.Frag) (H : Hp) (z : V) (n : Nat) : Prop := (∃ t : String, TyE K H z t ∧ kitB t "tuple" = some false) ∨ ∃ (q : Addr) (xs : List V), z = .ref q ∧ H q = some (.tup xs) ∧ xs.length ≤ 1000 ∧ (xs.length ≠ n ∨ ∃ (bs : List Bool) (w : V), xs = bs.map V.bl ++ [w] ∧ (w = .int 1 ∨ w = .non))
theorem BadA.mono {K : PySem.W.Frag} {H H' : Hp} {z : V} {n : Nat} (h : BadA K H z n) (e : Ex H H') : BadA K H' z n := by
  rcases h with ⟨t, ty, h⟩ | ⟨q, xs, hz, hq, r⟩
  · exact .inl ⟨t, fun H1 e1 => ty H1 (e.trans e1), h⟩
  · exact .inr ⟨q, xs, hz, e _ _ hq, r⟩
theorem kb_int : kitB "int" "int" = some true ∧ kitB "int" "bool" = some false := by decide +kernel
theorem kb_bl : kitB "bool" "bool" = some true := by decide +kernel
theorem kb_nb : kitB "NoneType" "bool" = some false := by decide +kernel
theorem kb_tt : kitB "tuple" "tuple" = some true := by decide +kernel
/-- a beat's fields -/
def btFs (l p : Nat) (t : Addr) : List (Str × V) := putF "_answers" (.ref t) (putF "_period" (.int (p : Nat)) (putF "_lead" (.int (l : Nat)) []))
def BeatAt (a : Ads) (H : Hp) (b : Addr) (l p : Nat) (as : List Bool) : Prop := ∃ dx t, H b = some (.ins a.f_Beat dx (btFs l p t)) ∧ H t = some (.tup (as.map V.bl))
theorem BeatAt.mono {a : Ads} {H H' : Hp} {b : Addr} {l p : Nat} {as : List Bool} (m : BeatAt a H b l p as) (e : Ex H H') : BeatAt a H' b l p as := let ⟨dx, t, h, ht⟩ := m; ⟨dx, t, e _ _ h, e _ _ ht⟩
theorem fs_lead (l p : Nat) (t : Addr) : (btFs l p t).lookup ("_lead" : Str) = some (.int (l : Nat)) := by
  unfold btFs
  rw [lookup_putF, if_neg (by decide +kernel), lookup_putF, if_neg (by decide +kernel), lookup_putF, if_pos rfl]
theorem fs_period (l p : Nat) (t : Addr) : (btFs l p t).lookup ("_period" : Str) = some (.int (p : Nat)) := by
  unfold btFs
  rw [lookup_putF, if_neg (by decide +kernel), lookup_putF, if_pos rfl]
theorem fs_answers (l p : Nat) (t : Addr) : (btFs l p t).lookup ("_answers" : Str) = some (.ref t) := by
  unfold btFs
  rw [lookup_putF, if_pos rfl]
/-- a beat's parts are right -/
structure Right (l p : Nat) (as : List Bool) : Prop where
  len : as.length = l + p
  pos : 0 < p
  l9 : l < 100
  p9 : p < 100
theorem all_true : ∀ n : Nat, (((List.range n).map fun _ => true).all id) = true := fun n => by
  rw [List.all_eq_true]
  intro x hx
  obtain ⟨_, _, rfl⟩ := List.mem_map.mp hx
  rfl
section
variable {σ : L2.St} {K : PySem.W.Frag} {H : Hp} {te ta tv : TE} {y : V} {D : Ends}
theorem ev_allL {bs : List Bool} (h : EvL te σ H (bs.map V.bl)) : Ev (tCB (rAll K) (tCons te tNil)) σ H (.bl (bs.all id)) := fun H1 e Q q => h H1 e _ fun p H2 _ e2 hp => ⟨p, bs, rfl, sq_of hp, q H2 e2⟩
theorem s_fld {p C dx : Addr} {fs : List (Str × V)} {f : Str} (hv : Ev tv σ H y) (ha : Ev ta σ H (.ref p)) (hp : H p = some (.ins C dx fs)) (c : Cls K C) (n : NoAttr K C f) (hl : fs.length < 1000)
    (k : ∀ H1, ExB p H H1 → H1 p = some (.ins C dx (putF f y fs)) → D.nx σ H1) : sFld K ta tv f D σ H :=
  hv H (Ex.refl H) _ fun H1 e1 => ha H1 e1 _ fun H2 e2 => ⟨p, C, dx, fs, rfl, e2 _ _ (e1 _ _ hp), c, n, hl, k _ (fun b o hb ne => by rw [upd_ne ne]; exact e2 _ _ (e1 _ _ hb)) upd_same⟩
end
def spPlace : Sp := fun vs H Q _ => ∃ i l p : Nat, vs = [.int (i : Nat), .int (l : Nat), .int (p : Nat)] ∧ 0 < p ∧ ∀ H', Ex H H' → Q (.int (place l p i : Nat)) H'
def spBeat (a : Ads) : Sp := fun vs H Q _ => ∃ (b dx t : Addr) (l p : Nat) (as : List Bool), vs = [.ref b, .int (l : Nat), .int (p : Nat), .ref t] ∧ Right l p as ∧ H b = some (.ins a.f_Beat dx []) ∧ H t = some (.tup (as.map V.bl)) ∧ ∀ H', ExB b H H' → H' b = some (.ins a.f_Beat dx (btFs l p t)) → Q .non H'
section
variable {P : Program} {w : World} {K : PySem.W.Frag} {mg : Str → Option Value} {base : Heap} {a : Ads}
theorem ok_is_whole (T : Txt w K mg a) : FnOk P w K mg base CX0 1 a.f_is_whole a.d_is_whole ["value"] (spW1 K) := by
  refine T.fn_is_whole.ok sc_is_whole (fun vs H Q E h => ?_) (fun cdv A outer s H vs Q E hr h => ?_)
  · obtain ⟨_, _, _, _, rfl, _⟩ := h
    rfl
  · obtain ⟨x, t, b1, b2, rfl, ty, k1, k2, k⟩ := h
    refine ⟨_, (pss_one (ps_ret (pe_and (pe_callB call_isi (by rfl) T.b_isinstance PyProof.Rows.boot_isinstance (pa_cons (pv 0) (pa_cons (pe_bltn (v := .ty "int") (by rfl) T.b_int (by decide +kernel) rfl) pa_nil))) (pe_one (pe_not (pe_callB call_isi (by rfl) T.b_isinstance PyProof.Rows.boot_isinstance (pa_cons (pv 0) (pa_cons (pe_bltn (v := .ty "bool") (by rfl) T.b_bool (by decide +kernel) rfl) pa_nil)))))))), ?_⟩
    refine s_ret (v := .bl (b1 && !b2)) (ev_is (ev_andV (a := b1) (b := !b2) (ev_isi (ea_cons (ev_var rfl) (ea_cons ev_c ea_nil)) (.ty _) ty (kit_ty k1)) fun _ => ev_notV (a := b2) (ev_isi (ea_cons (ev_var rfl) (ea_cons ev_c ea_nil)) (.ty _) ty (kit_ty k2))) rfl) fun H1 e1 => ?_
    exact k H1 e1
theorem ok_place_of (T : Txt w K mg a) : FnOk P w K mg base CX0 1 a.f_place_of a.d_place_of ["at", "lead", "period"] spPlace := by
  refine T.fn_place_of.ok sc_place_of (fun vs H Q E h => ?_) (fun cdv A outer s H vs Q E hr h => ?_)
  · obtain ⟨_, _, _, rfl, _⟩ := h
    rfl
  · obtain ⟨i, l, p, rfl, hp, k⟩ := h
    refine ⟨_, (pss_one (ps_ret (pe_ifExp (pt_cmpR op_lt (pv 0) (pv 1) (nomark _)) (pv 0) (pe_op op_add (pv 1) (pe_op op_mod (pe_op op_sub (pv 0) (pv 1)) (pv 2)))))), ?_⟩
    refine s_ret (v := .int (place l p i : Nat)) (ev_if (b := decide ((i : Int) < (l : Int))) (et_test (ev_op (ev_var rfl) (ev_var rfl) rv_I0)) (fun hb => ev_is (ev_var rfl) ?_) fun hb => ev_is (ev_op (ev_var rfl) (ev_op (ev_op (ev_var rfl) (ev_var rfl) rv_I0) (ev_var rfl) (rv_I (by omega))) rv_I0) ?_) fun H1 e1 => k H1 e1
    · have := of_decide_eq_true hb
      unfold place
      rw [if_pos (by omega)]
    · have := of_decide_eq_false hb
      unfold place
      rw [if_neg (by omega)]
      have h1 : (i : Int) - (l : Int) = ((i - l : Nat) : Int) := by omega
      rw [h1]
      exact congrArg V.int (by omega)
theorem ok_Beat_init (T : Txt w K mg a) : FnOk P w K mg base CX0 3 a.f_BeatD_initD a.d_BeatD_initD ["self", "lead", "period", "answers"] (spBeat a) := by
  have G_is_whole : FnOk P w K mg base CX0 2 _ _ _ _ := (ok_is_whole T).mono (by decide)
  refine T.fn_BeatD_initD.ok sc_BeatD_initD (fun vs H Q E h => ?_) (fun cdv A outer s H vs Q E hr h => ?_)
  · obtain ⟨_, _, _, _, _, _, rfl, _⟩ := h
    rfl
  · obtain ⟨b, dx, t, l, p, as, rfl, R, hb, ht, k⟩ := h
    have hrc : Room 2 _ := hr
    refine ⟨_, (pss_cons (ps_if (PW.pt (pw_or (pt_not (pt_val (pe_call G_is_whole hrc rfl T.mg_is_whole T.fn_is_whole.kp (bd_is_whole T) .nil pass0 (pa_cons (pv 1) pa_nil)))) (pw_or1 (pt_cmpR op_lt (pv 1) pe_int (nomark _))))) (pss_one ps_never) pss_nil)
    (pss_cons (ps_if (PW.pt (pw_or (pt_not (pt_val (pe_call G_is_whole hrc rfl T.mg_is_whole T.fn_is_whole.kp (bd_is_whole T) .nil pass0 (pa_cons (pv 2) pa_nil)))) (pw_or1 (pt_cmpR op_lt (pv 2) pe_int (nomark _))))) (pss_one ps_never) pss_nil)
    (pss_cons (ps_if (PW.pt (pw_or (pt_not (pt_val (pe_callB call_isi (by rfl) T.b_isinstance PyProof.Rows.boot_isinstance (pa_cons (pv 3) (pa_cons (pe_bltn (v := .ty "tuple") (by rfl) T.b_tuple (by decide +kernel) rfl) pa_nil))))) (pw_or1 (pt_cmpR op_ne (pe_callB call_len_seq (by rfl) T.b_len PySem.boot_len (pa_cons (pv 3) pa_nil)) (pe_op op_add (pv 1) (pv 2)) (nomark _))))) (pss_one ps_never) pss_nil)
    (pss_cons (ps_if (pt_not (pt_val (pe_callB (cr_all rfl) (by rfl) T.b_all (by decide +kernel) (pa_cons (pe_lc (own := [("answer", 4)]) (g := gName 4) rfl sc_BeatD_initD.nd (pi_tup (pv 3)) (blkOk_by (own := [("answer", 4)]) (N := n_BeatD_initD) (sc := defScope s_BeatD_initD) (by decide +kernel)) (fun _ _ _ _ _ => (pg_name (i := 4) sc_BeatD_initD.nd rfl (Or.inl rfl))) (fun _ _ _ _ _ => pts_nil) (fun _ _ _ _ _ => (pe_callB (call_isiE (K := K) rfl) (by rfl) T.b_isinstance PyProof.Rows.boot_isinstance (pa_cons (pv 4) (pa_cons (pe_bltn (v := .ty "bool") (by rfl) T.b_bool (by decide +kernel) rfl) pa_nil))))) pa_nil)))) (pss_one ps_never) pss_nil)
    (pss_cons (ps_fld (pv 0) (pv 1) rfl)
    (pss_cons (ps_fld (pv 0) (pv 2) rfl)
    (pss_one (ps_fld (pv 0) (pv 3) rfl)))))))), ?_⟩
    have whole : ∀ (i : Nat) (n : Nat) (σ : L2.St) (H2 : Hp) (E : XK), σ[i]? = some (some (.int (n : Nat))) → Ev (tCall (spW1 K) [] E (tCons (tVar i) tNil)) σ H2 (.bl true) := fun i n σ H2 E hs =>
      ev_call (vs := [.int (n : Nat)]) (ea_cons (ev_var hs) ea_nil) fun H3 e3 Q3 q3 E3 => ⟨_, "int", true, false, rfl, fun _ _ => .base (.int _), kb_int.1, kb_int.2, q3⟩
    have hp0 := R.pos
    refine q_when (b := false) (et_is (et_or (a := false) (b := false) (et_is (et_not (a := true) (et_B (whole 1 l _ _ _ rfl))) rfl) fun _ => et_is (et_test (ev_op (ev_var rfl) ev_c rv_I0)) (decide_eq_false (by omega))) rfl) (fun z => nomatch z) fun _ H1 e1 => ?_
    refine q_when (b := false) (et_is (et_or (a := false) (b := false) (et_is (et_not (a := true) (et_B (whole 2 p _ _ _ rfl))) rfl) fun _ => et_is (et_test (ev_op (ev_var rfl) ev_c rv_I0)) (decide_eq_false (by omega))) rfl) (fun z => nomatch z) fun _ H2 e2 => ?_
    have ht2 := (e1.trans e2) _ _ ht
    refine q_when (b := false) (et_is (et_or (a := false) (b := false) (et_is (et_not (a := true) (et_B (ev_isi (ea_cons (ev_var rfl) (ea_cons ev_c ea_nil)) (.ty _) (fun _ e => .base (.tup (e _ _ ht2))) (kit_ty kb_tt)))) rfl) fun _ => et_is (et_test (ev_op (ev_lenW (ew_of (p := t) (xs := as.map V.bl) (ev_var rfl) ht2)) (ev_op (ev_var rfl) (ev_var rfl) rv_I0) (rv_ne rfl))) ?_) rfl) (fun z => nomatch z) fun _ H3 e3 => ?_
    · have := R.len
      rw [List.length_map, this]
      simp
    have ht3 := e3 _ _ ht2
    have tx : t ≠ b := ne_of ht hb fun z => nomatch z
    refine q_when (b := false) (et_is (et_not (a := true) (et_B (ev_is (ev_allL (bs := (List.range (as.map V.bl).length).map fun _ => true) (K := K) (el_is (el_lcW (K := K) (fun _ => true) (fun _ => .bl true) (ew_of (ev_var rfl) ht3) (by rw [List.length_map]; have := R.len; have := R.l9; have := R.p9; omega) (fun _ => rfl) (fun i x H4 e4 hx => et_yes) fun i x H4 e4 hx _ => ?_) ?_)) (congrArg V.bl (all_true _))))) rfl) (fun z => nomatch z) fun _ H4 e4 => ?_
    · rw [List.getElem?_map] at hx
      obtain ⟨y, _, rfl⟩ := Option.map_eq_some_iff.mp hx
      exact ev_isi (ea_cons (ev_var rfl) (ea_cons ev_c ea_nil)) (.ty _) (fun _ _ => .base (.bl _)) (kit_ty kb_bl)
    · rw [given_all, List.map_map]
      rfl
    have hb4 := (((e1.trans e2).trans e3).trans e4) _ _ hb
    refine q_fld (y := .int (l : Nat)) (ev_var rfl) (ev_var rfl) hb4 T.c_Beat T.n_lead_Beat (by decide) fun H5 e5 hb5 => ?_
    refine q_fld (y := .int (p : Nat)) (ev_var rfl) (ev_var rfl) hb5 T.c_Beat T.n_period_Beat (by show 1 < 1000; decide) fun H6 e6 hb6 => ?_
    refine s_fld (y := .ref t) (ev_var rfl) (ev_var rfl) hb6 T.c_Beat T.n_answers_Beat (by exact Nat.lt_of_le_of_lt (Nat.le_trans (length_putF _ _ _) (Nat.succ_le_succ (length_putF _ _ _))) (by decide)) fun H7 e7 hb7 => ?_
    exact k H7 ((ExB.of (((e1.trans e2).trans e3).trans e4)).trans ((e5.trans e6).trans e7)) hb7
end
end KF
set_option Elab.async false
set_option linter.all false
set_option maxRecDepth 100000
set_option maxHeartbeats 4000000
namespace KF
open PySem PySem.Spec PyProof.Rows L2 Evl
local macro_rules | `(tactic| walk_at "ev") => `(tactic| repeat' (first | exact ev_c | exact ev_var rfl | exact rv_I0 | refine' rv_I ?_ | refine' rv_eq ?_ | refine' rv_ne ?_ | refine' ev_op ?_ ?_ ?_ | exact ea_nil | refine' ea_cons ?_ ?_ | refine' et_test ?_ | refine' et_B ?_ | refine' et_not ?_ | refine' ev_notV ?_))

open PySem
/-! ### slices of tuples of bools -/
theorem cut_to (as : List Bool) (c : Nat) : cutV (as.map V.bl) none (some (c : Nat)) = (as.take c).map V.bl := by
  unfold cutV
  rw [HT.sIx_none, HT.sIx_nat, List.drop_zero, Nat.sub_zero, ← List.map_take, List.length_map]
  congr 1
  by_cases h : c ≤ as.length
  · rw [Nat.min_eq_left h]
  · rw [Nat.min_eq_right (by omega), List.take_length, List.take_of_length_le (by omega)]
theorem cut_from (as : List Bool) (c : Nat) : cutV (as.map V.bl) (some (c : Nat)) none = (as.drop c).map V.bl := by
  unfold cutV
  rw [HT.sIx_none, HT.sIx_nat, ← List.map_drop, ← List.map_take, List.length_map]
  congr 1
  by_cases h : c ≤ as.length
  · rw [Nat.min_eq_left h, List.take_of_length_le (by rw [List.length_drop]; omega)]
  · rw [Nat.min_eq_right (by omega), Nat.sub_self, List.take_zero, List.drop_of_length_le (by omega)]
theorem cut_last (as : List Bool) : cutV (as.map V.bl) none (some (-1)) = (as.take (as.length - 1)).map V.bl := by
  unfold cutV
  rw [HT.sIx_none, List.drop_zero, Nat.sub_zero, ← List.map_take, List.length_map]
  congr 2
  show (if (-1 : Int) < 0 then ((-1 : Int) + (as.length : Int)).toNat else min (-1 : Int).toNat as.length) = _
  rw [if_pos (by decide)]
  omega
section
variable {σ : L2.St} {K : PySem.W.Frag} {H : Hp} {te : TE} {D : Ends} {tz : TS}
theorem q_asgX {i : Nat} {xs : List V} (h : EvX te σ H xs) (k : ∀ p H1, Ex H H1 → H1 p = some (.tup xs) → tz D (σ.set i (some (.ref p))) H1) : tSeq (tAsg te (gName i)) tz D σ H := h H (Ex.refl H) _ fun p H1 e h1 => k p H1 e h1
theorem ew_fld {C b dx t : Addr} {fs : List (Str × V)} {f : Str} {xs : List V} (h : Ev te σ H (.ref b)) (ho : H b = some (.ins C dx fs)) (c : Cls K C) (n : NoAttr K C f) (l : fs.lookup f = some (.ref t)) (ht : H t = some (.tup xs)) : EvX (tFld K te f) σ H xs := ew_of (ev_fld h ho c n l) ht
end
theorem rv_eqTB {K : PySem.W.Frag} {H : Hp} {t u : Addr} {xs ys : List Bool} (h1 : H t = some (.tup (xs.map V.bl))) (h2 : H u = some (.tup (ys.map V.bl))) : RV (rEqD K) (.ref t) (.ref u) H (.bl (decide (xs = ys))) := fun H1 e Q k =>
  ⟨.tuple (xs.map PyData.bool), .tuple (ys.map PyData.bool), .tup (st_of (e _ _ h1)) (dp_bools xs), .tup (st_of (e _ _ h2)) (dp_bools ys), shaped_tup xs, shaped_tup ys, by
    have z : PyData.eqv (.tuple (xs.map PyData.bool)) (.tuple (ys.map PyData.bool)) = decide (xs = ys) := by
      simp only [PyData.eqv]
      exact eqv_bools xs ys
    rw [z]
    exact k H1 (Ex.refl H1)⟩
/-! ### what a beat tells -/
def spCall (a : Ads) : Sp := fun vs H Q _ => ∃ (b : Addr) (l p i : Nat) (as : List Bool), vs = [.ref b, .int ((i + 1 : Nat) : Int)] ∧ BeatAt a H b l p as ∧ Right l p as ∧ ∀ H', Ex H H' → Q (.bl (goesB l p as i)) H'
def spThr (a : Ads) : Sp := fun vs H Q _ => ∃ (b : Addr) (l p c : Nat) (as : List Bool), vs = [.ref b, .int (c : Nat)] ∧ BeatAt a H b l p as ∧ Right l p as ∧ ∀ H', Ex H H' → Q (.int (thr l p as c : Nat)) H'
/-- the k-th coming that goes on -/
def NthIs (l p : Nat) (as : List Bool) (k : Nat) (v : V) : Prop := (∃ c : Nat, v = .int ((c + 1 : Nat) : Int) ∧ goesB l p as c = true ∧ thr l p as (c + 1) = k ∧ (k ≤ tot l p as ∨ 0 < each l as)) ∨ (v = .non ∧ each l as = 0 ∧ tot l p as < k)
def spNth (a : Ads) : Sp := fun vs H Q _ => ∃ (b : Addr) (l p k : Nat) (as : List Bool), vs = [.ref b, .int (k : Nat)] ∧ BeatAt a H b l p as ∧ Right l p as ∧ 0 < k ∧ ∀ v H', Ex H H' → NthIs l p as k v → Q v H'
/-- what a beat is compared with -/
def EqTo (a : Ads) (H : Hp) (l p : Nat) (as : List Bool) (y : V) (r : Bool) : Prop := (∃ c l2 p2 as2, y = .ref c ∧ BeatAt a H c l2 p2 as2 ∧ r = decide (l = l2 ∧ p = p2 ∧ as = as2)) ∨ (r = false ∧ ∃ c xs, y = .ref c ∧ H c = some (.tup xs))
theorem EqTo.mono {a : Ads} {H H' : Hp} {l p : Nat} {as : List Bool} {y : V} {r : Bool} (h : EqTo a H l p as y r) (e : Ex H H') : EqTo a H' l p as y r := h.imp (fun ⟨c, l2, p2, as2, h1, h2, h3⟩ => ⟨c, l2, p2, as2, h1, h2.mono e, h3⟩) fun ⟨h1, c, xs, h2, h3⟩ => ⟨h1, c, xs, h2, e _ _ h3⟩
def spEq (a : Ads) : Sp := fun vs H Q _ => ∃ (b : Addr) (l p : Nat) (as : List Bool) (y : V) (r : Bool), vs = [.ref b, y] ∧ BeatAt a H b l p as ∧ EqTo a H l p as y r ∧ ∀ H', Ex H H' → Q (.bl r) H'
section
variable {P : Program} {w : World} {K : PySem.W.Frag} {mg : Str → Option Value} {base : Heap} {a : Ads}
theorem tyx_beat (T : Txt w K mg a) {H : Hp} {b : Addr} {l p : Nat} {as : List Bool} (m : BeatAt a H b l p as) : TyX K H (.ref b) (.ref a.f_Beat) := by
  obtain ⟨dx, t, h, _⟩ := m
  exact .base (.ins h T.c_Beat T.ia_Beat T.in_ T.it_ T.im_Beat)
theorem ok_Beat_lead (T : Txt w K mg a) : FnOk P w K mg base CX0 1 a.f_Beat_lead a.d_Beat_lead ["self"] (getSp a.f_Beat "_lead") := by
  obtain ⟨oc, od, kV, doc, pm, an, cdv, ct, osl, e, lk, hcd⟩ := T.fn_Beat_lead.ex
  rw [e]
  exact fn_getter (by rw [← e]; exact lk) hcd sc_Beat_lead rfl rfl T.c_Beat T.n_lead_Beat
theorem ok_Beat_period (T : Txt w K mg a) : FnOk P w K mg base CX0 1 a.f_Beat_period a.d_Beat_period ["self"] (getSp a.f_Beat "_period") := by
  obtain ⟨oc, od, kV, doc, pm, an, cdv, ct, osl, e, lk, hcd⟩ := T.fn_Beat_period.ex
  rw [e]
  exact fn_getter (by rw [← e]; exact lk) hcd sc_Beat_period rfl rfl T.c_Beat T.n_period_Beat
theorem ok_Beat_answers (T : Txt w K mg a) : FnOk P w K mg base CX0 1 a.f_Beat_answers a.d_Beat_answers ["self"] (getSp a.f_Beat "_answers") := by
  obtain ⟨oc, od, kV, doc, pm, an, cdv, ct, osl, e, lk, hcd⟩ := T.fn_Beat_answers.ex
  rw [e]
  exact fn_getter (by rw [← e]; exact lk) hcd sc_Beat_answers rfl rfl T.c_Beat T.n_answers_Beat
theorem ok_Beat_call (T : Txt w K mg a) : FnOk P w K mg base CX0 2 a.f_BeatD_callD a.d_BeatD_callD ["self", "c"] (spCall a) := by
  have G_place_of : FnOk P w K mg base CX0 1 _ _ _ _ := ok_place_of T
  refine T.fn_BeatD_callD.ok sc_BeatD_callD (fun vs H Q E h => ?_) (fun cdv A outer s H vs Q E hr h => ?_)
  · obtain ⟨_, _, _, _, _, rfl, _⟩ := h
    rfl
  · obtain ⟨b, l, p, i, as, rfl, ⟨dx, t, hb, ht⟩, R, k⟩ := h
    have hrc : Room 1 _ := hr
    refine ⟨_, (pss_one (ps_ret (pe_ix ix_tup (pe_fld (pv 0) rfl) (pe_call G_place_of hrc rfl T.mg_place_of T.fn_place_of.kp (bd_place_of T) .nil pass0 (pa_cons (pe_op op_sub (pv 1) pe_int) (pa_cons (pe_fld (pv 0) rfl) (pa_cons (pe_fld (pv 0) rfl) pa_nil)))) (fun _ _ => rfl)))), ?_⟩
    have hi := place_lt (L := l) R.pos i
    have hx : atI (as.map V.bl) ((place l p i : Nat) : Int) = some (.bl (goesB l p as i)) := atI_nat (by
      have := R.len
      rw [List.getElem?_map, List.getElem?_eq_getElem (by omega)]
      unfold goesB
      rw [List.getD_eq_getElem?_getD, List.getElem?_eq_getElem (by omega)]
      rfl)
    refine s_ret (v := .bl (goesB l p as i)) (ev_op (ev_fld (ev_var rfl) hb T.c_Beat T.n_answers_Beat (fs_answers l p t)) (ev_call (vs := [.int (i : Nat), .int (l : Nat), .int (p : Nat)]) (ea_cons (ev_is (ev_op (ev_var rfl) ev_c rv_I0) (congrArg V.int (by omega))) (ea_cons (ev_fld (ev_var rfl) hb T.c_Beat T.n_lead_Beat (fs_lead l p t)) (ea_cons (ev_fld (ev_var rfl) hb T.c_Beat T.n_period_Beat (fs_period l p t)) ea_nil))) fun H1 e1 Q1 q1 E1 => ⟨i, l, p, rfl, R.pos, q1⟩) (rv_ixT (K := K) (st_of ht) hx)) fun H1 e1 => k H1 e1
theorem ok_Beat_through (T : Txt w K mg a) : FnOk P w K mg base CX0 1 a.f_Beat_through a.d_Beat_through ["self", "c"] (spThr a) := by
  refine T.fn_Beat_through.ok sc_Beat_through (fun vs H Q E h => ?_) (fun cdv A outer s H vs Q E hr h => ?_)
  · obtain ⟨_, _, _, _, _, rfl, _⟩ := h
    rfl
  · obtain ⟨b, l, p, c, as, rfl, ⟨dx, t, hb, ht⟩, R, k⟩ := h
    refine ⟨_, (pss_cons (ps_if (pt_cmpR op_le (pv 1) (pe_fld (pv 0) rfl) (nomark _)) (pss_one (ps_ret (pe_callB (call_sumB rfl) (by rfl) T.b_sum (by decide +kernel) (pa_cons (pe_slice sl_tupA (pe_fld (pv 0) rfl) po_none (po_some (pv 1))) pa_nil)))) pss_nil)
    (pss_cons (ps_asg (pe_callB call_divmod (by rfl) T.b_divmod (by decide +kernel) (pa_cons (pe_op op_sub (pv 1) (pe_fld (pv 0) rfl)) (pa_cons (pe_fld (pv 0) rfl) pa_nil))) (pg_tup rfl (pgs_cons (pg_name (i := 2) sc_Beat_through.nd rfl (Or.inl rfl)) (pgs_cons (pg_name (i := 3) sc_Beat_through.nd rfl (Or.inl rfl)) pgs_nil))))
    (pss_cons (ps_set (i := 4) sc_Beat_through.nd rfl (Or.inl rfl) (pe_slice sl_tupA (pe_fld (pv 0) rfl) (po_some (pe_fld (pv 0) rfl)) po_none))
    (pss_one (ps_ret (pe_op op_add (pe_op op_add (pe_callB (call_sumB rfl) (by rfl) T.b_sum (by decide +kernel) (pa_cons (pe_slice sl_tupA (pe_fld (pv 0) rfl) po_none (po_some (pe_fld (pv 0) rfl))) pa_nil)) (pe_op op_mul (pv 2) (pe_callB (call_sumB rfl) (by rfl) T.b_sum (by decide +kernel) (pa_cons (pv 4) pa_nil)))) (pe_callB (call_sumB rfl) (by rfl) T.b_sum (by decide +kernel) (pa_cons (pe_slice sl_tupA (pv 4) po_none (po_some (pv 3))) pa_nil)))))))), ?_⟩
    have ld : ∀ {σ : L2.St} {H1 : Hp}, Ex H H1 → σ[0]? = some (some (.ref b)) → Ev (tFld K (tVar 0) "_lead") σ H1 (.int (l : Nat)) := fun e hs => ev_fld (ev_var hs) (e _ _ hb) T.c_Beat T.n_lead_Beat (fs_lead l p t)
    have pd : ∀ {σ : L2.St} {H1 : Hp}, Ex H H1 → σ[0]? = some (some (.ref b)) → Ev (tFld K (tVar 0) "_period") σ H1 (.int (p : Nat)) := fun e hs => ev_fld (ev_var hs) (e _ _ hb) T.c_Beat T.n_period_Beat (fs_period l p t)
    have an : ∀ {σ : L2.St} {H1 : Hp}, Ex H H1 → σ[0]? = some (some (.ref b)) → EvX (tFld K (tVar 0) "_answers") σ H1 (as.map V.bl) := fun e hs => ew_fld (ev_var hs) (e _ _ hb) T.c_Beat T.n_answers_Beat (fs_answers l p t) (e _ _ ht)
    refine q_when (b := decide ((c : Int) ≤ (l : Int))) (et_test (ev_op (ev_var rfl) (ld (Ex.refl _) rfl) rv_I0)) (fun hc H1 e1 => ?_) (fun hc H1 e1 => ?_)
    · have hc := of_decide_eq_true hc
      refine s_ret (v := .int (thr l p as c : Nat)) (ev_is (ev_sumB (K := K) (ew_is (ew_sl (K := K) (an e1 rfl) eo_none (eo_some (ev_var rfl))) (cut_to as c))) ?_) fun H2 e2 => k H2 (e1.trans e2)
      rw [thr_take R.len (by omega)]
    · have hc := of_decide_eq_false hc
      have hp0 := R.pos
      have hp9 := R.p9
      refine q_divmod (K := K) (a := ((c - l : Nat) : Int)) (b := (p : Nat)) (ev_is (ev_op (ev_var rfl) (ld e1 rfl) rv_I0) (congrArg V.int (by omega))) (pd e1 rfl) (by omega) (by omega) fun H2 e2 => ?_
      have e02 := e1.trans e2
      refine q_asgX (ew_is (ew_sl (K := K) (an e02 rfl) (eo_some (ld e02 rfl)) eo_none) (cut_from as l)) fun u H3 e3 hu => ?_
      have e03 := e02.trans e3
      have hm := Nat.mod_lt (c - l) hp0
      have hd : ((c - l : Nat) : Int) / (p : Nat) = ((c - l) / p : Nat) := by omega
      have hmo : ((c - l : Nat) : Int) % (p : Nat) = ((c - l) % p : Nat) := by omega
      rw [hd, hmo]
      refine s_ret (v := .int (thr l p as c : Nat)) (ev_is (ev_op (ev_op (ev_sumB (K := K) (ew_is (ew_sl (K := K) (an e03 rfl) eo_none (eo_some (ld e03 rfl))) (cut_to as l))) (ev_op (ev_var rfl) (ev_sumB (K := K) (ew_of (ev_var rfl) hu)) (rv_I (.inr ?_))) rv_I0) (ev_sumB (K := K) (ew_is (ew_sl (K := K) (ew_of (ev_var rfl) hu) eo_none (eo_some (ev_var rfl))) (cut_to (as.drop l) _))) rv_I0) ?_) fun H4 e4 => k H4 (e03.trans e4)
      · have h1 : cnt (as.drop l) ≤ as.length := by
          unfold cnt
          have := List.length_filter_le id (as.drop l)
          rw [List.length_drop] at this
          omega
        have := R.len
        have := R.l9
        omega
      · have e : c = l + (c - l) % p + (c - l) / p * p := by
          have := Nat.mod_add_div (c - l) p
          rw [Nat.mul_comm] at this
          omega
        have f := thr_far R.len (Nat.le_of_lt hm) ((c - l) / p)
        rw [← e] at f
        rw [f]
        exact congrArg V.int (by rw [Int.natCast_add, Int.natCast_add, Int.natCast_mul])
theorem ok_Beat_eq (T : Txt w K mg a) : FnOk P w K mg base CX0 1 a.f_BeatD_eqD a.d_BeatD_eqD ["self", "other"] (spEq a) := by
  refine T.fn_BeatD_eqD.ok sc_BeatD_eqD (fun vs H Q E h => ?_) (fun cdv A outer s H vs Q E hr h => ?_)
  · obtain ⟨_, _, _, _, _, _, rfl, _⟩ := h
    rfl
  · obtain ⟨b, l, p, as, y, r, rfl, mb, eq, k⟩ := h
    refine ⟨_, (pss_one (ps_ret (pe_and (pe_callB call_isi (by rfl) T.b_isinstance PyProof.Rows.boot_isinstance (pa_cons (pv 1) (pa_cons (pe_glob (v := .ref a.f_Beat) rfl T.mg_Beat rfl) pa_nil))) (pe_and (pe_cmpR op_eq (pe_fld (pv 0) rfl) (pe_fld (pv 1) rfl) (nomark _)) (pe_and (pe_cmpR op_eq (pe_fld (pv 0) rfl) (pe_fld (pv 1) rfl) (nomark _)) (pe_one (pe_cmpR (op_eqD hr.units) (pe_fld (pv 0) rfl) (pe_fld (pv 1) rfl) (nomark _)))))))), ?_⟩
    obtain ⟨dx, t, hb, ht⟩ := id mb
    rcases eq with ⟨c, l2, p2, as2, rfl, mc, rfl⟩ | ⟨rfl, c, xs, rfl, hc⟩
    · obtain ⟨dy, u, hc, hu⟩ := id mc
      refine s_ret (v := .bl (decide (l = l2 ∧ p = p2 ∧ as = as2))) (ev_is (ev_andV (a := true) (ev_isi (ea_cons (ev_var rfl) (ea_cons ev_c ea_nil)) (.own _) (fun H' e' => tyx_beat T (mc.mono e')) T.is_Beat) fun _ => ev_andV (a := decide (V.int (l : Nat) = V.int (l2 : Nat))) (ev_op (ev_fld (ev_var rfl) hb T.c_Beat T.n_lead_Beat (fs_lead l p t)) (ev_fld (ev_var rfl) hc T.c_Beat T.n_lead_Beat (fs_lead l2 p2 u)) (rv_eq rfl)) fun _ => ev_andV (a := decide (V.int (p : Nat) = V.int (p2 : Nat))) (ev_op (ev_fld (ev_var rfl) hb T.c_Beat T.n_period_Beat (fs_period l p t)) (ev_fld (ev_var rfl) hc T.c_Beat T.n_period_Beat (fs_period l2 p2 u)) (rv_eq rfl)) fun _ => ev_op (ev_fld (ev_var rfl) hb T.c_Beat T.n_answers_Beat (fs_answers l p t)) (ev_fld (ev_var rfl) hc T.c_Beat T.n_answers_Beat (fs_answers l2 p2 u)) (rv_eqTB (K := K) ht hu)) ?_) fun H1 e1 => k H1 e1
      by_cases h1 : l = l2
      · by_cases h2 : p = p2
        · by_cases h3 : as = as2 <;> simp [h1, h2, h3]
        · have : ¬ (V.int (p : Nat) = V.int (p2 : Nat)) := fun z => by injection z with z; omega
          simp [h1, h2, this]
      · have : ¬ (V.int (l : Nat) = V.int (l2 : Nat)) := fun z => by injection z with z; omega
        simp [h1, this]
    · exact s_ret (v := .bl false) (ev_is (ev_andV (a := false) (b := true) (ev_isi (ea_cons (ev_var rfl) (ea_cons ev_c ea_nil)) (.own _) (fun _ e => .base (.tup (e _ _ hc))) T.nt_Beat_tuple) fun z => nomatch z) rfl) fun H1 e1 => k H1 e1
end
end KF
set_option Elab.async false
set_option linter.all false
set_option maxRecDepth 100000
set_option maxHeartbeats 4000000
namespace KF
open PySem PySem.Spec PyProof.Rows L2 Evl
local macro_rules | `(tactic| walk_at "ev") => `(tactic| repeat' (first | exact ev_c | exact ev_var rfl | exact rv_I0 | refine' rv_I ?_ | refine' rv_eq ?_ | refine' rv_ne ?_ | refine' ev_op ?_ ?_ ?_ | exact ea_nil | refine' ea_cons ?_ ?_ | refine' et_test ?_ | refine' et_B ?_ | refine' et_not ?_ | refine' ev_notV ?_))

open PySem
theorem rv_eqE {K : PySem.W.Frag} {H : Hp} {l q : Addr} {ns : List Int} (hl : H l = some (.lst (ns.map V.int))) (hq : H q = some (.lst [])) : RV (rEqD K) (.ref l) (.ref q) H (.bl (decide (ns = []))) := fun H1 e Q k =>
  ⟨.list (ns.map PyData.int), .list [], .lst (sq_of (e _ _ hl)) (dp_ints ns), .lst (sq_of (e _ _ hq)) .nil, PySem.W.ke_shaped_ints ns, PySem.W.ke_shaped_ints [], by
    rw [eqv_nil]
    exact k H1 (Ex.refl H1)⟩
def natV (ns : List Nat) : List V := ns.map fun n => V.int (n : Nat)
theorem natV_is (ns : List Nat) : natV ns = (ns.map fun n => ((n : Nat) : Int)).map V.int := by
  unfold natV
  rw [List.map_map]
  rfl
section
variable {P : Program} {w : World} {K : PySem.W.Frag} {mg : Str → Option Value} {base : Heap} {a : Ads}
theorem ok_Beat_nth (T : Txt w K mg a) : FnOk P w K mg base CX0 1 a.f_Beat_nth a.d_Beat_nth ["self", "k"] (spNth a) := by
  refine T.fn_Beat_nth.ok sc_Beat_nth (fun vs H Q E h => ?_) (fun cdv A outer s H vs Q E hr h => ?_)
  · obtain ⟨_, _, _, _, _, rfl, _⟩ := h
    rfl
  · obtain ⟨b, l, p, k, as, rfl, ⟨dx, t, hb, ht⟩, R, k0, kk⟩ := h
    refine ⟨_, (pss_cons (ps_setLc (i := 3) (own := [("at", 2), ("answer", 6)]) (g := gTup K 2 (gCons (gName 2) (gCons (gName 6) gNil))) rfl sc_Beat_nth.nd rfl rfl (sw_true rfl rfl rfl (by decide +kernel)) (pi_enT rfl T.b_enumerate (pe_fld (pv 0) rfl)) (blkOk_by (own := [("at", 2), ("answer", 6)]) (N := n_Beat_nth) (sc := defScope s_Beat_nth) (by decide +kernel)) (fun _ _ _ _ _ => (pg_tup rfl (pgs_cons (pg_name (i := 2) sc_Beat_nth.nd rfl (Or.inl rfl)) (pgs_cons (pg_name (i := 6) sc_Beat_nth.nd rfl (Or.inl rfl)) pgs_nil)))) (fun _ _ _ _ _ => (pts_one (pt_val (pv 6)))) (fun _ _ _ _ _ => (pe_op op_add (pv 2) pe_int)))
    (pss_cons (ps_setLc (i := 4) (own := [("c", 7)]) (g := gName 7) rfl sc_Beat_nth.nd rfl rfl (sw_true rfl rfl rfl (by decide +kernel)) (pi_list (pv 3)) (blkOk_by (own := [("c", 7)]) (N := n_Beat_nth) (sc := defScope s_Beat_nth) (by decide +kernel)) (fun _ _ _ _ _ => (pg_name (i := 7) sc_Beat_nth.nd rfl (Or.inl rfl))) (fun _ _ _ _ _ => (pts_one (pt_cmpR op_gt (pv 7) (pe_fldE (K := K) (pv 0) rfl) (nomark _)))) (fun _ _ _ _ _ => (pv 7)))
    (pss_cons (ps_if (pt_cmpR op_le (pv 1) (pe_callB call_len_seq (by rfl) T.b_len PySem.boot_len (pa_cons (pv 3) pa_nil)) (nomark _)) (pss_one (ps_ret (pe_ix ix_list (pv 3) (pe_op op_sub (pv 1) pe_int) (fun _ _ => rfl)))) pss_nil)
    (pss_cons (ps_if (pt_cmpR (op_eqD hr.units) (pv 4) (pe_lst pa_nil) (nomark _)) (pss_one (ps_ret pe_non)) pss_nil)
    (pss_cons (ps_asg (pe_callB call_divmod (by rfl) T.b_divmod (by decide +kernel) (pa_cons (pe_op op_sub (pe_op op_sub (pv 1) pe_int) (pe_op op_sub (pe_callB call_len_seq (by rfl) T.b_len PySem.boot_len (pa_cons (pv 3) pa_nil)) (pe_callB call_len_seq (by rfl) T.b_len PySem.boot_len (pa_cons (pv 4) pa_nil)))) (pa_cons (pe_callB call_len_seq (by rfl) T.b_len PySem.boot_len (pa_cons (pv 4) pa_nil)) pa_nil))) (pg_tup rfl (pgs_cons (pg_name (i := 5) sc_Beat_nth.nd rfl (Or.inl rfl)) (pgs_cons (pg_name (i := 2) sc_Beat_nth.nd rfl (Or.inl rfl)) pgs_nil))))
    (pss_one (ps_ret (pe_op op_add (pe_ix ix_list (pv 4) (pv 2) (fun _ _ => rfl)) (pe_op op_mul (pv 5) (pe_fld (pv 0) rfl)))))))))), ?_⟩
    have hp0 := R.pos
    have hp9 := R.p9
    have hl9 := R.l9
    have hlen : (as.map V.bl).length = l + p := by rw [List.length_map]; exact R.len
    have hz : (as.map V.bl).length ≤ 40000 := by omega
    have gm := goL_len l p as
    have gt := tot_is (L := l) (P := p) R.len
    have tl : tot l p as ≤ l + p := upTo_le _ _
    refine q_asgL (xs := natV ((goL (l + p) as).map (· + 1))) (el_is (el_lcEn (K := K) (b := t) (ys := as.map V.bl) (fun i => as.getD i false) (fun i => .int ((i + 1 : Nat) : Int)) (ev_fld (ev_var rfl) hb T.c_Beat T.n_answers_Beat (fs_answers l p t)) (st_of ht) hz (fun _ _ => rfl) (fun i y H1 e1 hy => ?_) (fun i y H1 e1 hy _ => ev_is (ev_op (ev_var rfl) ev_c rv_I0) (congrArg V.int (by omega)))) ?_) fun q1 H1 hq1 e1 h1 => ?_
    · rw [List.getElem?_map] at hy
      obtain ⟨z, hz, rfl⟩ := Option.map_eq_some_iff.mp hy
      exact et_B (ev_is (ev_var rfl) (congrArg V.bl (by rw [List.getD_eq_getElem?_getD, hz] <;> rfl)))
    · rw [hlen]
      unfold given natV goL
      rw [List.map_map]
      rfl
    have gi : ∀ i c, (goL (l + p) as)[i]? = some c → (natV ((goL (l + p) as).map (· + 1)))[i]? = some (V.int ((c + 1 : Nat) : Int)) := fun i c h => by
      unfold natV
      rw [List.map_map, List.getElem?_map, h]
      rfl
    have gl : (natV ((goL (l + p) as).map (· + 1))).length = tot l p as := by
      unfold natV
      rw [List.length_map, List.length_map, gm]
    refine q_asgL (xs := given (tot l p as) (fun i => decide (thr l p as l ≤ i)) (fun i => .int (((goL (l + p) as).getD i 0 + 1 : Nat) : Int))) (el_is (el_lcL (K := K) (a := q1) (xs := natV ((goL (l + p) as).map (· + 1))) (fun i => decide (thr l p as l ≤ i)) (fun i => .int (((goL (l + p) as).getD i 0 + 1 : Nat) : Int)) (ev_var rfl) (sq_of h1) (by rw [gl]; omega) (fun _ => rfl) (fun i x H2 e2 hx => ?_) (fun i x H2 e2 hx _ => ?_)) (by rw [gl])) fun q2 H2 hq2 e2 h2 => ?_
    · obtain ⟨c, hc⟩ : ∃ c, (goL (l + p) as)[i]? = some c := by
        have := (List.getElem?_eq_some_iff.mp hx).1
        rw [gl, ← gm] at this
        exact ⟨_, List.getElem?_eq_getElem this⟩
      rw [gi i c hc] at hx
      cases hx
      refine et_is (et_test (ev_op (ev_var rfl) (ev_fld (ev_var rfl) ((e1.trans e2) _ _ hb) T.c_Beat T.n_lead_Beat (fs_lead l p t)) rv_I0)) (decide_eq_decide.mpr ?_)
      have := goL_side (P := p) hc
      omega
    · obtain ⟨c, hc⟩ : ∃ c, (goL (l + p) as)[i]? = some c := by
        have := (List.getElem?_eq_some_iff.mp hx).1
        rw [gl, ← gm] at this
        exact ⟨_, List.getElem?_eq_getElem this⟩
      rw [gi i c hc] at hx
      cases hx
      exact ev_is (ev_var rfl) (congrArg V.int (by rw [List.getD_eq_getElem?_getD, hc] <;> rfl))
    have al : (given (tot l p as) (fun i => decide (thr l p as l ≤ i)) (fun i => V.int (((goL (l + p) as).getD i 0 + 1 : Nat) : Int))).length = each l as := by
      unfold given
      rw [List.length_map, from_len]
      omega
    have h1' := e2 _ _ h1
    refine q_when (b := decide ((k : Int) ≤ ((tot l p as : Nat) : Int))) (et_test (ev_op (ev_var rfl) (ev_is (ev_lenS (K := K) (ev_var rfl) (sq_of h1')) (by rw [gl])) rv_I0)) (fun hk H3 e3 => ?_) (fun hk H3 e3 => ?_)
    · have hk := of_decide_eq_true hk
      have lt : k - 1 < (goL (l + p) as).length := by omega
      have hc : (goL (l + p) as)[k - 1]? = some (goL (l + p) as)[k - 1] := List.getElem?_eq_getElem lt
      generalize (goL (l + p) as)[k - 1] = c at hc
      obtain ⟨c1, c2, c3⟩ := goL_get (L := l) (P := p) hc
      have hx : atI (natV ((goL (l + p) as).map (· + 1))) ((k - 1 : Nat) : Int) = some (.int ((c + 1 : Nat) : Int)) := atI_nat (gi _ _ hc)
      refine s_ret (v := .int ((c + 1 : Nat) : Int)) (ev_op (ev_var rfl) (ev_is (ev_op (ev_var rfl) ev_c rv_I0) (congrArg V.int (by omega))) (rv_ixL (K := K) (sq_of (e3 _ _ h1')) hx)) fun H4 e4 => kk _ H4 (((e1.trans e2).trans e3).trans e4) (.inl ⟨c, rfl, c2, ?_, .inl (by omega)⟩)
      have := upTo_succ (goesB l p as) c
      rw [if_pos c2] at this
      have c3 : upTo (goesB l p as) c = k - 1 := c3
      show upTo (goesB l p as) (c + 1) = k
      omega
    · have hk := of_decide_eq_false hk
      have h2' := e3 _ _ h2
      have agi : given (tot l p as) (fun i => decide (thr l p as l ≤ i)) (fun i => V.int (((goL (l + p) as).getD i 0 + 1 : Nat) : Int)) = ((((List.range (tot l p as)).filter fun i => decide (thr l p as l ≤ i)).map fun i => (((goL (l + p) as).getD i 0 + 1 : Nat) : Int))).map V.int := by
        unfold given
        rw [List.map_map]
        rfl
      have nil : (((List.range (tot l p as)).filter fun i => decide (thr l p as l ≤ i)).map fun i => (((goL (l + p) as).getD i 0 + 1 : Nat) : Int)) = [] ↔ each l as = 0 := by
        rw [← List.length_eq_zero_iff, List.length_map, from_len]
        omega
      refine q_when (b := decide (each l as = 0)) (et_is (et_test (ev_opL (ev_var rfl) (el_lst ea_nil (by decide)) fun q H5 hq e5 => rv_eqE (K := K) (ns := (((List.range (tot l p as)).filter fun i => decide (thr l p as l ≤ i)).map fun i => (((goL (l + p) as).getD i 0 + 1 : Nat) : Int))) (by rw [← agi]; exact e5 _ _ h2') hq)) (decide_eq_decide.mpr nil)) (fun h0 H4 e4 => ?_) (fun h0 H4 e4 => ?_)
      · have h0 := of_decide_eq_true h0
        exact s_ret (v := .non) ev_c fun H5 e5 => kk _ H5 ((((e1.trans e2).trans e3).trans e4).trans e5) (.inr ⟨rfl, h0, by omega⟩)
      · have h0 := of_decide_eq_false h0
        have he : 0 < each l as := by omega
        have h14 := e4 _ _ (e3 _ _ h1')
        have h24 := e4 _ _ h2'
        refine q_divmod (K := K) (a := ((k - 1 - thr l p as l : Nat) : Int)) (b := (each l as : Nat)) (ev_is (ev_op (ev_op (ev_var rfl) ev_c rv_I0) (ev_op (ev_is (ev_lenS (K := K) (ev_var rfl) (sq_of h14)) (by rw [gl])) (ev_is (ev_lenS (K := K) (ev_var rfl) (sq_of h24)) (by rw [al])) rv_I0) rv_I0) (congrArg V.int (by omega))) (ev_is (ev_lenS (K := K) (ev_var rfl) (sq_of h24)) (by rw [al])) (by omega) (by omega) fun H5 e5 => ?_
        obtain ⟨c0, f1, f2, f3⟩ := far_get hp0 R.len he (k := k) (by omega)
        have rl := Nat.mod_lt (k - 1 - thr l p as l) he
        have d1 : ((k - 1 - thr l p as l : Nat) : Int) / (each l as : Nat) = ((k - 1 - thr l p as l) / each l as : Nat) := by omega
        have d2 : ((k - 1 - thr l p as l : Nat) : Int) % (each l as : Nat) = ((k - 1 - thr l p as l) % each l as : Nat) := by omega
        rw [d1, d2]
        generalize (k - 1 - thr l p as l) / each l as = q at f2 f3
        generalize (k - 1 - thr l p as l) % each l as = r at f1 rl
        have hx : atI (given (tot l p as) (fun i => decide (thr l p as l ≤ i)) (fun i => V.int (((goL (l + p) as).getD i 0 + 1 : Nat) : Int))) ((r : Nat) : Int) = some (.int ((c0 + 1 : Nat) : Int)) := atI_nat (by
          unfold given
          rw [List.getElem?_map, from_get _ _ _ (by omega)]
          show some (V.int _) = _
          rw [List.getD_eq_getElem?_getD, f1]
          rfl)
        have e05 := (((e1.trans e2).trans e3).trans e4).trans e5
        refine s_ret (v := .int ((c0 + q * p + 1 : Nat) : Int)) (ev_is (ev_op (ev_op (ev_var rfl) (ev_var rfl) (rv_ixL (K := K) (sq_of (e5 _ _ h24)) hx)) (ev_op (ev_var rfl) (ev_fld (ev_var rfl) (e05 _ _ hb) T.c_Beat T.n_period_Beat (fs_period l p t)) (rv_I (.inr ⟨by omega, by omega⟩))) rv_I0) (congrArg V.int ?_)) fun H6 e6 => kk _ H6 (e05.trans e6) (.inl ⟨c0 + q * p, rfl, f2, f3, .inr he⟩)
        rw [show c0 + q * p + 1 = (c0 + 1) + q * p by omega]
        simp only [Int.natCast_add, Int.natCast_mul]
end
end KF
set_option Elab.async false
set_option linter.all false
set_option maxRecDepth 100000
set_option maxHeartbeats 4000000
namespace KF
open PySem PySem.Spec PyProof.Rows L2 Evl
local macro_rules | `(tactic| walk_at "ev") => `(tactic| repeat' (first | exact ev_c | exact ev_var rfl | exact rv_I0 | refine' rv_I ?_ | refine' rv_eq ?_ | refine' rv_ne ?_ | refine' ev_op ?_ ?_ ?_ | exact ea_nil | refine' ea_cons ?_ ?_ | refine' et_test ?_ | refine' et_B ?_ | refine' et_not ?_ | refine' ev_notV ?_))

open PySem
/-! ### the pen: a list of a list of ints, how far it is, what rests -/
def PenAt (H : Hp) (p : Addr) (n : Nat) : Prop := ∃ (l : Addr) (ns : List Int) (at_ : Nat) (rest : Int), H p = some (.lst [.ref l, .int at_, .int rest]) ∧ H l = some (.lst (ns.map V.int)) ∧ l ≠ p ∧ at_ ≤ n ∧ 0 ≤ rest ∧ ns.length ≤ 63
theorem PenAt.keep {H H' : Hp} {p : Addr} {n : Nat} (h : PenAt H p n) (e : Ex H H') : PenAt H' p n := by
  obtain ⟨l, ns, at_, rest, h1, h2, h3, h4, h5, h6⟩ := h
  exact ⟨l, ns, at_, rest, e _ _ h1, e _ _ h2, h3, h4, h5, h6⟩
theorem PenAt.ex {H : Hp} {p : Addr} {n : Nat} (h : PenAt H p n) : ∃ o, H p = some o := by
  obtain ⟨l, ns, at_, rest, h1, _⟩ := h
  exact ⟨_, h1⟩
/-- all but p stay, and p's first item does -/
structure ExP (p : Addr) (H H' : Hp) : Prop where
  ex : ExB p H H'
  fix : ∀ l x y, H p = some (.lst [.ref l, x, y]) → ∃ x' y', H' p = some (.lst [.ref l, x', y'])
theorem ExP.trans {p : Addr} {H H1 H2 : Hp} (a : ExP p H H1) (b : ExP p H1 H2) : ExP p H H2 := ⟨a.ex.trans b.ex, fun l x y h => by
  obtain ⟨x1, y1, h1⟩ := a.fix l x y h
  exact b.fix l x1 y1 h1⟩
theorem ExP.of {p : Addr} {H H' : Hp} (e : Ex H H') : ExP p H H' := ⟨ExB.of e, fun l x y h => ⟨x, y, e _ _ h⟩⟩
def spPen (K : PySem.W.Frag) : Sp := fun vs H Q _ => ∃ (s : Addr) (ns : List Int), vs = [.ref s] ∧ SqL K H s (ns.map V.int) ∧ ns.length ≤ 63 ∧ ∀ p H', H p = none → Ex H H' → PenAt H' p 0 → Q (.ref p) H'
/-- a limit of draws -/
def LimM (m : Nat) : Prop := ((m : Nat) : Int).natAbs < 2 ^ 200
def spDraw : Sp := fun vs H Q _ => ∃ (p : Addr) (n m : Nat), vs = [.ref p, .int m] ∧ PenAt H p n ∧ n < 100000 ∧ 0 < m ∧ LimM m ∧ ∀ (d : Nat) H', d < m → ExP p H H' → PenAt H' p (n + 1) → Q (.int d) H'
def spPick : Sp := fun vs H Q _ => ∃ (p s : Addr) (xs : List V) (n : Nat), vs = [.ref p, .ref s] ∧ PenAt H p n ∧ n < 100000 ∧ H s = some (.lst xs) ∧ s ≠ p ∧ 0 < xs.length ∧ xs.length ≤ 1000 ∧ ∀ x H', x ∈ xs → ExP p H H' → PenAt H' p (n + 1) → Q x H'
theorem lim_small {m : Nat} (h : m ≤ 1000) : LimM m := by
  unfold LimM
  rw [Int.natAbs_natCast]
  exact Nat.lt_of_le_of_lt h (by decide)
section
variable {P : Program} {w : World} {K : PySem.W.Frag} {mg : Str → Option Value} {base : Heap} {a : Ads}
theorem ok_pen (T : Txt w K mg a) : FnOk P w K mg base CX0 1 a.f__law_pen a.d__law_pen ["_law_script"] (spPen K) := by
  refine T.fn__law_pen.ok sc__law_pen (fun vs H Q E h => ?_) (fun cdv A outer s H vs Q E hr h => ?_)
  · obtain ⟨_, _, rfl, _⟩ := h
    rfl
  · obtain ⟨sc, ns, rfl, hs, hl, k⟩ := h
    refine ⟨_, (pss_one (ps_ret (pe_lst (pa_cons (pe_callTy call_list_of (by rfl) T.b_list (by decide +kernel) (pa_cons (pe_slice sl_list (pv 0) po_none (po_some pe_int)) pa_nil)) (pa_cons pe_int (pa_cons pe_int pa_nil)))))), ?_⟩
    obtain ⟨ms, e, hm⟩ := cut_ints ns none (some 63)
    refine s_retPen (el_is (el_listN (K := K) (el_sliceL (K := K) (ev_var rfl) eo_none (eo_some ev_c) hs)) e) fun l p H1 hl1 e1 h1 hp => ?_
    have lp : l ≠ p := fun z => by rw [z, hp] at h1; cases h1
    exact k p _ (fresh_back e1 hp) (e1.trans (Ex.new hp)) ⟨l, ms, 0, 0, upd_same, by rw [upd_ne lp]; exact h1, lp, Nat.le_refl 0, Int.le_refl 0, by omega⟩
theorem ok_draw (T : Txt w K mg a) : FnOk P w K mg base CX0 1 a.f__law_draw a.d__law_draw ["_law_pen_here", "_law_many"] spDraw := by
  refine T.fn__law_draw.ok sc__law_draw (fun vs H Q E h => ?_) (fun cdv A outer s H vs Q E hr h => ?_)
  · obtain ⟨_, _, _, rfl, _⟩ := h
    rfl
  · obtain ⟨p, n, m, rfl, ⟨l, ns, at_, rest, hp, hl, lp, hat, hrest, hlen⟩, hn, hm0, hm, k⟩ := h
    refine ⟨_, (pss_cons (ps_if (pt_cmpR op_gt (pe_ix ix_list (pv 0) pe_int (fun _ _ => rfl)) pe_int (nomark _)) (pss_cons (ps_set (i := 2) sc__law_draw.nd rfl (Or.inl rfl) (pe_op op_mod (pe_callTy call_int1 (by rfl) T.b_int (by decide +kernel) (pa_cons (pe_ix ix_list (pv 0) pe_int (fun _ _ => rfl)) pa_nil)) (pv 1)))
    (pss_cons (ps_asg (pe_op op_fdivW (pe_callTy call_int1 (by rfl) T.b_int (by decide +kernel) (pa_cons (pe_ix ix_list (pv 0) pe_int (fun _ _ => rfl)) pa_nil)) (pv 1)) (pg_sub (pv 0) pe_int set_list))
    (pss_one (ps_ret (pv 2))))) pss_nil)
    (pss_cons (ps_set (i := 3) sc__law_draw.nd rfl (Or.inl rfl) (pe_ix ix_list (pv 0) pe_int (fun _ _ => rfl)))
    (pss_cons (ps_asg (pe_op op_add (pv 3) pe_int) (pg_sub (pv 0) pe_int set_list))
    (pss_cons (ps_set (i := 4) sc__law_draw.nd rfl (Or.inl rfl) (pe_op op_add (pe_op op_mul pe_int (pv 3)) pe_int))
    (pss_cons (ps_if (pt_cmpR (op_neD hr.units) (pe_ix ix_list (pv 0) pe_int (fun _ _ => rfl)) (pe_lst pa_nil) (nomark _)) (pss_one (ps_set (i := 4) sc__law_draw.nd rfl (Or.inl rfl) (pe_ix ix_list (pe_ix ix_list (pv 0) pe_int (fun _ _ => rfl)) (pe_op op_mod (pe_callTy call_int1 (by rfl) T.b_int (by decide +kernel) (pa_cons (pv 3) pa_nil)) (pe_callB call_len_seq (by rfl) T.b_len PySem.boot_len (pa_cons (pe_ix ix_list (pv 0) pe_int (fun _ _ => rfl)) pa_nil))) (fun _ _ => rfl)))) pss_nil)
    (pss_cons (ps_if (PW.pt (pw_and (pt_cmpR op_lt (pv 3) (pe_callB call_len_seq (by rfl) T.b_len PySem.boot_len (pa_cons (pe_ix ix_list (pv 0) pe_int (fun _ _ => rfl)) pa_nil)) (nomark _)) (pw_and1 (pt_cmpR op_ge (pe_callB call_abs (by rfl) T.b_abs (by decide +kernel) (pa_cons (pv 4) pa_nil)) (pe_op op_pow pe_int pe_int) (nomark _))))) (pss_cons (ps_set (i := 5) sc__law_draw.nd rfl (Or.inl rfl) (pe_op op_add (pe_op op_mul pe_int (pe_op op_sub (pe_callB call_abs (by rfl) T.b_abs (by decide +kernel) (pa_cons (pv 4) pa_nil)) (pe_op op_pow pe_int pe_int))) (pe_callTy call_int1 (by rfl) T.b_int (by decide +kernel) (pa_cons (pe_cmpR op_lt (pv 4) pe_int (nomark _)) pa_nil))))
    (pss_cons (ps_asg (pe_op op_fdivW (pe_callTy call_int1 (by rfl) T.b_int (by decide +kernel) (pa_cons (pv 5) pa_nil)) (pv 1)) (pg_sub (pv 0) pe_int set_list))
    (pss_one (ps_ret (pe_op op_mod (pe_callTy call_int1 (by rfl) T.b_int (by decide +kernel) (pa_cons (pv 5) pa_nil)) (pv 1)))))) pss_nil)
    (pss_cons (ps_set (i := 6) sc__law_draw.nd rfl (Or.inl rfl) (pe_op op_mod (pe_callTy call_int1 (by rfl) T.b_int (by decide +kernel) (pa_cons (pe_op op_pow (pe_op op_add (pe_op op_add (pe_op op_mod (pe_callTy call_int1 (by rfl) T.b_int (by decide +kernel) (pa_cons (pv 4) pa_nil)) pe_int) (pe_op op_mul pe_int (pv 3))) pe_int) pe_int) pa_nil)) pe_int))
    (pss_cons (ps_set (i := 6) sc__law_draw.nd rfl (Or.inl rfl) (pe_op op_mod (pe_callTy call_int1 (by rfl) T.b_int (by decide +kernel) (pa_cons (pe_op op_pow (pe_op op_add (pe_op op_add (pe_op op_mul (pv 6) (pe_op op_add (pe_op op_mul pe_int (pv 3)) pe_int)) (pe_op op_mul (pe_op op_mul pe_int (pv 3)) (pv 3))) pe_int) pe_int) pa_nil)) pe_int))
    (pss_one (ps_ret (pe_op op_mod (pe_callTy call_int1 (by rfl) T.b_int (by decide +kernel) (pa_cons (pe_op op_fdiv (pv 6) pe_int) pa_nil)) (pv 1)))))))))))), ?_⟩
    have fin : ∀ (H1 H4 : Hp) (x r : Int) (b : Nat), ExB p H H1 → b ≤ n + 1 → 0 ≤ r → Ex (upd H1 p (.lst [.ref l, .int b, .int r])) H4 → 0 ≤ x → x < m → Q (.int x) H4 := fun H1 H4 x r b e1 hb hr0 e4 h0 h1 => by
      have ex : x = (x.toNat : Nat) := by omega
      rw [ex]
      refine k x.toNat _ (by omega) ⟨fun c o hc ne => e4 _ _ (by rw [upd_ne ne]; exact e1 _ _ hc ne), fun l' x' y' q => by
        rw [hp] at q
        cases q
        exact ⟨_, _, e4 _ _ upd_same⟩⟩ ⟨l, ns, b, r, e4 _ _ upd_same, e4 _ _ (by rw [upd_ne lp]; exact e1 _ _ hl lp), lp, hb, hr0, hlen⟩
    have hm1 : (0 : Int) < (m : Int) := by omega
    -- if pen[2] > 0
    refine q_when (b := decide (0 < rest)) (et_test (ev_op (ev_op (ev_var rfl) ev_c (rv_ixL (sq_of hp) rfl)) ev_c rv_I0)) (fun hb H1 e1 => ?_) (fun hb H1 e1 => ?_)
    · have hp1 := e1 _ _ hp
      refine q_asg (v := .int (rest % m)) (ev_op (ev_int (ev_op (ev_var rfl) ev_c (rv_ixL (sq_of hp1) rfl))) (ev_var rfl) (rv_I (by omega))) fun H2 e2 => ?_
      have hp2 := e2 _ _ hp1
      refine q_setL (j := 2) hp2 (v := .int (rest / m)) (ev_op (ev_int (ev_op (ev_var rfl) ev_c (rv_ixL (sq_of hp2) rfl))) (ev_var rfl) (rv_I (wide_div (b := 200) hm1 hm (by decide) (by decide)))) (ev_var rfl) ev_c (by show 2 < 3; decide) fun H3 e3 => ?_
      refine s_ret (v := .int (rest % m)) (ev_var rfl) fun H4 e4 => ?_
      exact fin H3 H4 _ _ _ (ExB.of ((e1.trans e2).trans e3)) (Nat.le_succ_of_le hat) (Int.ediv_nonneg hrest (by omega)) e4 (Int.emod_nonneg _ (by omega)) (Int.emod_lt_of_pos _ hm1)
    · have hr0 : rest = 0 := by have := of_decide_eq_false hb; omega
      have hp1 := e1 _ _ hp
      refine q_asg (v := .int at_) (ev_op (ev_var rfl) ev_c (rv_ixL (sq_of hp1) rfl)) fun H2 e2 => ?_
      have hp2 := e2 _ _ hp1
      refine q_setL (j := 1) hp2 (v := .int (at_ + 1)) (by walk_at "ev") (ev_var rfl) ev_c (by show 1 < 3; decide) fun H3 e3 => ?_
      have e03 : Ex H H3 := (e1.trans e2).trans e3
      have hp3 : (upd H3 p (.lst [.ref l, .int (at_ + 1), .int rest])) p = some (.lst [.ref l, .int (at_ + 1), .int rest]) := upd_same
      have hl3 : (upd H3 p (.lst [.ref l, .int (at_ + 1), .int rest])) l = some (.lst (ns.map V.int)) := by rw [upd_ne lp]; exact e03 _ _ hl
      have b03 : ExB p H (upd H3 p (.lst [.ref l, .int (at_ + 1), .int rest])) := fun c o hc ne => by rw [upd_ne ne]; exact e03 _ _ hc
      generalize eK : (upd H3 p (.lst [.ref l, .int (at_ + 1), .int rest])) = K3 at hp3 hl3 b03
      show tSeq _ _ _ _ (upd H3 p (.lst [.ref l, .int (at_ + 1), .int rest]))
      rw [eK]
      -- cell
      refine q_asg (v := .int (56749 * at_ + 631)) (by walk_at "ev"; exact .inl ⟨by decide, by decide⟩) fun H4 e4 => ?_
      have hp4 := e4 _ _ hp3
      have hl4 := e4 _ _ hl3
      obtain ⟨cell, hc1, hc2⟩ : ∃ cell : Int, (ns ≠ [] → atI (ns.map V.int) ((at_ : Int) % ((ns.map V.int).length : Nat)) = some (.int cell)) ∧ (ns = [] → cell = 56749 * at_ + 631) := by
        by_cases hns : ns = []
        · exact ⟨56749 * at_ + 631, fun z => absurd hns z, fun _ => rfl⟩
        · have hpos : 0 < ns.length := List.length_pos_iff.mpr hns
          have hj : at_ % ns.length < ns.length := Nat.mod_lt _ hpos
          refine ⟨ns[at_ % ns.length], fun _ => ?_, fun z => absurd z hns⟩
          rw [List.length_map, show ((at_ : Int) % (ns.length : Nat)) = ((at_ % ns.length : Nat) : Int) by omega]
          exact atI_nat (by simp [hj])
      have hlenZ : ns ≠ [] → (0 : Int) < ((ns.map V.int).length : Nat) := fun hns => by
        have hpos : 0 < ns.length := List.length_pos_iff.mpr hns
        rw [List.length_map]; omega
      refine q_ifAsg (b := !PyData.eqv (.list (ns.map PyData.int)) (.list [])) (v := .int cell) (et_test (ev_opL (ev_op (ev_var rfl) ev_c (rv_ixL (sq_of hp4) rfl)) (el_lst ea_nil (by decide)) fun q H5 hq e5 => rv_neE (e5 _ _ hl4) hq)) (fun hb => ?_) (fun hb => ?_) fun H5 e5 => ?_
      · have hns : ns ≠ [] := fun z => by rw [eqv_nil, z] at hb; cases hb
        refine ev_op (ev_op (ev_var rfl) ev_c (rv_ixL (sq_of hp4) rfl)) (ev_op (ev_int (ev_var rfl)) (ev_lenS (ev_op (ev_var rfl) ev_c (rv_ixL (sq_of hp4) rfl)) (sq_of hl4)) (rv_I (hlenZ hns))) (rv_ixL (sq_of hl4) (hc1 hns))
      · have hns : ns = [] := by
          rw [eqv_nil] at hb
          simpa using hb
        rw [hc2 hns]
        rfl
      have hp5 := e5 _ _ hp4
      have hl5 := e5 _ _ hl4
      -- if at < len(pen[0]) and abs(cell) >= 10 ** 18
      refine q_when (b := decide ((at_ : Int) < ((ns.map V.int).length : Nat)) && decide ((10 : Int) ^ (18 : Int).toNat ≤ (if cell < 0 then -cell else cell))) (et_and (et_test (ev_op (ev_var rfl) (ev_lenS (ev_op (ev_var rfl) ev_c (rv_ixL (sq_of hp5) rfl)) (sq_of hl5)) rv_I0)) fun _ => et_test (ev_op (ev_abs (ev_var rfl)) (ev_op ev_c ev_c (rv_I ⟨by decide, by decide, by decide⟩)) rv_I0)) (fun hb H6 e6 => ?_) (fun hb H6 e6 => ?_)
      · have hge := of_decide_eq_true (Bool.and_eq_true_iff.mp hb).2
        have hp6 := e6 _ _ hp5
        refine q_asg (v := .int (2 * ((if cell < 0 then -cell else cell) - 10 ^ (18 : Int).toNat) + (if decide (cell < 0) = true then 1 else 0))) (ev_op (ev_op ev_c (ev_op (ev_abs (ev_var rfl)) (ev_op ev_c ev_c (rv_I ⟨by decide, by decide, by decide⟩)) rv_I0) (rv_I (.inl ⟨by decide, by decide⟩))) (ev_intB (ev_op (ev_var rfl) ev_c rv_I0)) rv_I0) fun H7 e7 => ?_
        have hg0 : 0 ≤ 2 * ((if cell < 0 then -cell else cell) - 10 ^ (18 : Int).toNat) + (if decide (cell < 0) = true then 1 else 0) := by
          have : (0 : Int) ≤ (if decide (cell < 0) = true then 1 else 0) := by split <;> decide
          omega
        generalize 2 * ((if cell < 0 then -cell else cell) - 10 ^ (18 : Int).toNat) + (if decide (cell < 0) = true then 1 else 0) = great at hg0
        refine q_setL (j := 2) (e7 _ _ hp6) (v := .int (great / m)) (ev_op (ev_int (ev_var rfl)) (ev_var rfl) (rv_I (wide_div (b := 200) hm1 hm (by decide) (by decide)))) (ev_var rfl) ev_c (by show 2 < 3; decide) fun H8 e8 => ?_
        refine s_ret (v := .int (great % m)) (ev_op (ev_int (ev_var rfl)) (ev_var rfl) (rv_I hm1)) fun H9 e9 => ?_
        exact fin H8 H9 _ (great / m) (at_ + 1) (b03.trans (ExB.of ((((e4.trans e5).trans e6).trans e7).trans e8))) (by omega) (Int.ediv_nonneg hg0 (by omega)) e9 (Int.emod_nonneg _ (by omega)) (Int.emod_lt_of_pos _ hm1)
      · have hat5 : (at_ : Int) ≤ 100000 := by omega
        have hu0 : 0 ≤ cell % 2147483587 + 56741 * at_ + 720 ∧ cell % 2147483587 + 56741 * at_ + 720 < 18446744073709551616 := by
          have h1 := Int.emod_nonneg cell (show (2147483587 : Int) ≠ 0 by decide)
          have h2 := Int.emod_lt_of_pos cell (show (0 : Int) < 2147483587 by decide)
          omega
        refine q_asg (v := .int ((cell % 2147483587 + 56741 * at_ + 720) ^ (5 : Int).toNat % 2147483629)) (ev_op (ev_int (ev_op (ev_op (ev_op (ev_op (ev_int (ev_var rfl)) ev_c (rv_I (by decide))) (ev_op ev_c (ev_var rfl) (rv_I (.inl ⟨by decide, by decide⟩))) rv_I0) ev_c rv_I0) ev_c (rv_I ⟨by decide, by decide, by omega⟩))) ev_c (rv_I (by decide))) fun H7 e7 => ?_
        have hx0 := Int.emod_nonneg ((cell % 2147483587 + 56741 * at_ + 720) ^ (5 : Int).toNat) (show (2147483629 : Int) ≠ 0 by decide)
        have hx1 := Int.emod_lt_of_pos ((cell % 2147483587 + 56741 * at_ + 720) ^ (5 : Int).toNat) (show (0 : Int) < 2147483629 by decide)
        generalize (cell % 2147483587 + 56741 * at_ + 720) ^ (5 : Int).toNat % 2147483629 = mx at hx0 hx1
        obtain ⟨b1, b2⟩ := mul_bd hx0 (Int.le_of_lt hx1) (y := 2 * at_ + 161) (B := 300000) (by omega) (by omega)
        obtain ⟨b3, b4⟩ := mul_bd (x := 64453 * at_) (A := 8000000000) (y := at_) (B := 100000) (by omega) (by omega) (by omega) hat5
        refine q_asg (v := .int ((mx * (2 * at_ + 161) + 64453 * at_ * at_ + 17) ^ (3 : Int).toNat % 2147483647)) (ev_op (ev_int (ev_op (ev_op (ev_op (ev_op (ev_var rfl) (ev_op (ev_op ev_c (ev_var rfl) (rv_I (.inl ⟨by decide, by decide⟩))) ev_c rv_I0) (rv_I (.inl ⟨by omega, by omega⟩))) (ev_op (ev_op ev_c (ev_var rfl) (rv_I (.inl ⟨by decide, by decide⟩))) (ev_var rfl) (rv_I (.inl ⟨by omega, by omega⟩))) rv_I0) ev_c rv_I0) ev_c (rv_I ⟨by decide, by decide, by omega⟩))) ev_c (rv_I (by decide))) fun H8 e8 => ?_
        refine s_ret (v := .int (((mx * (2 * at_ + 161) + 64453 * at_ * at_ + 17) ^ (3 : Int).toNat % 2147483647) / 32 % m)) (ev_op (ev_int (ev_op (ev_var rfl) ev_c (rv_I ⟨by decide, by decide⟩))) (ev_var rfl) (rv_I hm1)) fun H9 e9 => ?_
        refine fin H3 H9 _ rest (at_ + 1) (ExB.of e03) (by omega) hrest ?_ (Int.emod_nonneg _ (by omega)) (Int.emod_lt_of_pos _ hm1)
        intro c o hc
        exact e9 _ _ (e8 _ _ (e7 _ _ (e6 _ _ (e5 _ _ (e4 _ _ (by rw [← eK]; exact hc))))))
theorem ok_pick (T : Txt w K mg a) : FnOk P w K mg base CX0 2 a.f__law_pick a.d__law_pick ["_law_pen_here", "_law_some"] spPick := by
  have G__law_draw : FnOk P w K mg base CX0 1 _ _ _ _ := ok_draw T
  refine T.fn__law_pick.ok sc__law_pick (fun vs H Q E h => ?_) (fun cdv A outer s H vs Q E hr h => ?_)
  · obtain ⟨_, _, _, _, rfl, _⟩ := h
    rfl
  · obtain ⟨p, s, xs, n, rfl, hp, hn, hs, sp, h0, h1, k⟩ := h
    have hrc : Room 1 _ := hr
    refine ⟨_, (pss_one (ps_ret (pe_ix ix_list (pv 1) (pe_call G__law_draw hrc rfl T.mg__law_draw T.fn__law_draw.kp (bd__law_draw T) .nil pass0 (pa_cons (pv 0) (pa_cons (pe_callB call_len_seq (by rfl) T.b_len PySem.boot_len (pa_cons (pv 1) pa_nil)) pa_nil))) (fun _ _ => rfl)))), ?_⟩
    refine ⟨.ref s, rfl, .ref p, rfl, .ref s, rfl, s, xs, rfl, .inl (sq_of hs), p, n, xs.length, rfl, hp, hn, h0, lim_small h1, fun d H1 hd e1 hp1 => ?_⟩
    exact ⟨s, xs, d, xs[d], rfl, rfl, sq_of (e1.ex _ _ hs sp), atI_nat (by simp [hd]), k _ _ (List.getElem_mem hd) e1 hp1⟩
end
end KF
set_option Elab.async false
set_option linter.all false
set_option maxRecDepth 100000
set_option maxHeartbeats 4000000
namespace KF
open PySem PySem.Spec PyProof.Rows L2 Evl
local macro_rules | `(tactic| walk_at "ev") => `(tactic| repeat' (first | exact ev_c | exact ev_var rfl | exact rv_I0 | refine' rv_I ?_ | refine' rv_eq ?_ | refine' rv_ne ?_ | refine' ev_op ?_ ?_ ?_ | exact ea_nil | refine' ea_cons ?_ ?_ | refine' et_test ?_ | refine' et_B ?_ | refine' et_not ?_ | refine' ev_notV ?_))

open PySem
/-! ### BadBeat is raised -/
def spBadI (a : Ads) : Sp := fun vs H Q _ => ∃ (e : Addr) (v : V), vs = [.ref e, v] ∧ H e = some (exo e a.x_BadBeat none) ∧ ∀ dx, H dx = none → dx ≠ e → Q .non (upd (upd H dx (exd dx [(("part" : Str), v)])) e (exo e a.x_BadBeat (some dx)))
/-- an error's dict, new: its part is s -/
def Told (a : Ads) (E : XK) (H : Hp) (s : Str) : Prop := ∀ d H', H d = none → Ex H H' → H' d = some (.xd [(("part" : Str), .str s)]) → E (.ref a.x_BadBeat) (some d) H'
theorem Told.back {a : Ads} {E : XK} {H H1 : Hp} {s : Str} (h : Told a E H s) (e : Ex H H1) : Told a E H1 s := fun d H' hd e' h' => h d H' (fresh_back e hd) (e.trans e') h'
theorem raise_told {a : Ads} {E : XK} {H : Hp} {s : Str} (h : Told a E H s) : ∀ e, H e = none → spBadI a (.ref e :: ([.str s] ++ [])) (upd H e (exo e a.x_BadBeat none)) (fun v H2 => v = .non ∧ ∃ (d : Addr) (fs : List (Str × V)), H2 e = some (exo e a.x_BadBeat (some d)) ∧ H2 d = some (exd d fs) ∧ H d = none ∧ E (.ref a.x_BadBeat) (some d) (upd (del H2 e) d (.xd fs))) (fun _ _ _ => False) := fun e he =>
  ⟨e, .str s, rfl, upd_same, fun dx hdx ne => by
    have hd : H dx = none := by rw [upd_ne ne] at hdx; exact hdx
    refine ⟨rfl, dx, [(("part" : Str), .str s)], upd_same, by rw [upd_ne ne, upd_same], hd, h dx _ hd (fun b o hb => ?_) upd_same⟩
    have be := ne_of_none hb he
    have bd := ne_of_none hb hd
    rw [upd_ne bd, del_ne be, upd_ne be, upd_ne bd, upd_ne be]
    exact hb⟩
/-- what is wrong with a beat's parts -/
def Wrong (K : PySem.W.Frag) (H : Hp) (x y z : V) (s : Str) : Prop := (BadN K H x 0 ∧ s = "lead") ∨ ∃ l : Nat, x = .int (l : Nat) ∧ ((BadN K H y 1 ∧ s = "period") ∨ ∃ p : Nat, y = .int (p : Nat) ∧ 0 < p ∧ BadA K H z (l + p) ∧ s = "answers")
theorem Wrong.mono {K : PySem.W.Frag} {H H' : Hp} {x y z : V} {s : Str} (h : Wrong K H x y z s) (e : Ex H H') : Wrong K H' x y z s := by
  rcases h with ⟨h, r⟩ | ⟨l, hx, ⟨h, r⟩ | ⟨p, hy, hp, h, r⟩⟩
  · exact .inl ⟨h.mono e, r⟩
  · exact .inr ⟨l, hx, .inl ⟨h.mono e, r⟩⟩
  · exact .inr ⟨l, hx, .inr ⟨p, hy, hp, h.mono e, r⟩⟩
def spBeatB (K : PySem.W.Frag) (a : Ads) : Sp := fun vs H Q E => ∃ (b dx : Addr) (x y z : V) (s : Str), vs = [.ref b, x, y, z] ∧ H b = some (.ins a.f_Beat dx []) ∧ Wrong K H x y z s ∧ Told a E H s
section
variable {P : Program} {w : World} {K : PySem.W.Frag} {mg : Str → Option Value} {base : Heap} {a : Ads}
theorem ok_BadBeat_init (T : Txt w K mg a) : FnOk P w K mg base CX0 1 a.f_BadBeatD_initD a.d_BadBeatD_initD ["self", "part"] (spBadI a) := by
  refine T.fn_BadBeatD_initD.ok sc_BadBeatD_initD (fun vs H Q E h => ?_) (fun cdv A outer s H vs Q E hr h => ?_)
  · obtain ⟨_, _, rfl, _⟩ := h
    rfl
  · obtain ⟨e, v, rfl, he, k⟩ := h
    refine ⟨_, (pss_one (ps_ost (pv 0) (pv 1))), ?_⟩
    exact ⟨v, rfl, .ref e, rfl, e, a.x_BadBeat, rfl, T.ox_BadBeat, T.np_BadBeat, .inl ⟨he, fun dx hdx ne => k dx hdx ne⟩⟩
theorem ok_init_bad (T : Txt w K mg a) : FnOk P w K mg base (L2.CX P w) 4 a.f_BeatD_initD a.d_BeatD_initD ["self", "lead", "period", "answers"] (spBeatB K a) := by
  have G_is_whole : FnOk P w K mg base CX0 3 _ _ _ _ := (ok_is_whole T).mono (by decide)
  have G_BadBeat_init : FnOk P w K mg base CX0 2 _ _ _ _ := (ok_BadBeat_init T).mono (by decide)
  refine T.fn_BeatD_initD.okX sc_BeatD_initD (fun vs H Q E h => ?_) (fun cdv A outer s H vs Q E hr h => ?_)
  · obtain ⟨_, _, _, _, _, _, rfl, _⟩ := h
    rfl
  · obtain ⟨b, dx, x, y, z, part, rfl, hb, wrong, told⟩ := h
    have hrc : Room 3 _ := hr
    have hrm : Room (2 + 1) _ := hr
    refine ⟨_, (pss_cons (ps_if (PW.pt (pw_or (pt_not (pt_val (pe_call G_is_whole hrc rfl T.mg_is_whole T.fn_is_whole.kp (bd_is_whole T) .nil pass0 (pa_cons (pv 1) pa_nil)))) (pw_or1 (pt_cmpR op_lt (pv 1) pe_int (nomark _))))) (pss_one (ps_raise rfl (takes_of rfl rfl rfl rfl) (pmk_oex T.ox_BadBeat T.ic_BadBeat T.it_BadBeat G_BadBeat_init hrm (bd_BadBeatD_initD T) .nil pass0 rfl T.mg_BadBeat (pa_cons pe_str pa_nil)))) pss_nil)
    (pss_cons (ps_if (PW.pt (pw_or (pt_not (pt_val (pe_call G_is_whole hrc rfl T.mg_is_whole T.fn_is_whole.kp (bd_is_whole T) .nil pass0 (pa_cons (pv 2) pa_nil)))) (pw_or1 (pt_cmpR op_lt (pv 2) pe_int (nomark _))))) (pss_one (ps_raise rfl (takes_of rfl rfl rfl rfl) (pmk_oex T.ox_BadBeat T.ic_BadBeat T.it_BadBeat G_BadBeat_init hrm (bd_BadBeatD_initD T) .nil pass0 rfl T.mg_BadBeat (pa_cons pe_str pa_nil)))) pss_nil)
    (pss_cons (ps_if (PW.pt (pw_or (pt_not (pt_val (pe_callB call_isi (by rfl) T.b_isinstance PyProof.Rows.boot_isinstance (pa_cons (pv 3) (pa_cons (pe_bltn (v := .ty "tuple") (by rfl) T.b_tuple (by decide +kernel) rfl) pa_nil))))) (pw_or1 (pt_cmpR op_ne (pe_callB call_len_seq (by rfl) T.b_len PySem.boot_len (pa_cons (pv 3) pa_nil)) (pe_op op_add (pv 1) (pv 2)) (nomark _))))) (pss_one (ps_raise rfl (takes_of rfl rfl rfl rfl) (pmk_oex T.ox_BadBeat T.ic_BadBeat T.it_BadBeat G_BadBeat_init hrm (bd_BadBeatD_initD T) .nil pass0 rfl T.mg_BadBeat (pa_cons pe_str pa_nil)))) pss_nil)
    (pss_cons (ps_if (pt_not (pt_val (pe_callB (cr_all rfl) (by rfl) T.b_all (by decide +kernel) (pa_cons (pe_lc (own := [("answer", 4)]) (g := gName 4) rfl sc_BeatD_initD.nd (pi_tup (pv 3)) (blkOk_by (own := [("answer", 4)]) (N := n_BeatD_initD) (sc := defScope s_BeatD_initD) (by decide +kernel)) (fun _ _ _ _ _ => (pg_name (i := 4) sc_BeatD_initD.nd rfl (Or.inl rfl))) (fun _ _ _ _ _ => pts_nil) (fun _ _ _ _ _ => (pe_callB (call_isiE (K := K) rfl) (by rfl) T.b_isinstance PyProof.Rows.boot_isinstance (pa_cons (pv 4) (pa_cons (pe_bltn (v := .ty "bool") (by rfl) T.b_bool (by decide +kernel) rfl) pa_nil))))) pa_nil)))) (pss_one (ps_raise rfl (takes_of rfl rfl rfl rfl) (pmk_oex T.ox_BadBeat T.ic_BadBeat T.it_BadBeat G_BadBeat_init hrm (bd_BadBeatD_initD T) .nil pass0 rfl T.mg_BadBeat (pa_cons pe_str pa_nil)))) pss_nil)
    (pss_cons (ps_fld (pv 0) (pv 1) rfl)
    (pss_cons (ps_fld (pv 0) (pv 2) rfl)
    (pss_one (ps_fld (pv 0) (pv 3) rfl)))))))), ?_⟩
    have whole : ∀ (i : Nat) (n : Nat) (σ : L2.St) (H2 : Hp) (E : XK), σ[i]? = some (some (.int (n : Nat))) → Ev (tCall (spW1 K) [] E (tCons (tVar i) tNil)) σ H2 (.bl true) := fun i n σ H2 E hs =>
      ev_call (vs := [.int (n : Nat)]) (ea_cons (ev_var hs) ea_nil) fun H3 e3 Q3 q3 E3 => ⟨_, "int", true, false, rfl, fun _ _ => .base (.int _), kb_int.1, kb_int.2, q3⟩
    have odd : ∀ (i : Nat) (m : Int) (v : V) (σ : L2.St) (H2 : Hp) (E : XK), σ[i]? = some (some v) → BadN K H2 v m → EvT (tOr (tNot (tB (tCall (spW1 K) [] E (tCons (tVar i) tNil)))) (tTest (tOp (rI0 fun i j => .bl (decide (i < j))) (tVar i) (tC (.int m))))) σ H2 true := fun i m v σ H2 E hs bad => by
      rcases bad with ⟨t, b1, b2, ty, k1, k2, hb⟩ | ⟨n, rfl, hn⟩
      · exact et_is (et_or (a := true) (b := true) (et_is (et_not (a := false) (et_B (ev_is (ev_call (sp := spW1 K) (dvs := []) (vs := [v]) (z := .bl (b1 && !b2)) (ea_cons (ev_var hs) ea_nil) fun H3 e3 Q3 q3 E3 => ⟨_, t, b1, b2, rfl, fun H4 e4 => ty H4 (e3.trans e4), k1, k2, q3⟩) (congrArg V.bl hb)))) rfl) fun z => nomatch z) rfl
      · exact et_is (et_or (a := false) (b := true) (et_is (et_not (a := true) (et_B (ev_call (sp := spW1 K) (dvs := []) (vs := [.int n]) (ea_cons (ev_var hs) ea_nil) fun H3 e3 Q3 q3 E3 => ⟨_, "int", true, false, rfl, fun _ _ => .base (.int _), kb_int.1, kb_int.2, q3⟩))) rfl) fun _ => et_is (et_test (ev_op (ev_var hs) ev_c rv_I0)) (decide_eq_true hn)) rfl
    rcases wrong with ⟨bad, rfl⟩ | ⟨l, rfl, ⟨bad, rfl⟩ | ⟨p, rfl, hp0, bad, rfl⟩⟩
    · refine q_when (b := true) (odd 1 0 x _ _ _ rfl bad) (fun _ H1 e1 => ?_) (fun z => nomatch z)
      exact ⟨by show 1 ≤ 1000; decide, raise_told (told.back e1)⟩
    · refine q_when (b := false) (et_is (et_or (a := false) (b := false) (et_is (et_not (a := true) (et_B (whole 1 l _ _ _ rfl))) rfl) fun _ => et_is (et_test (ev_op (ev_var rfl) ev_c rv_I0)) (decide_eq_false (by omega))) rfl) (fun z => nomatch z) fun _ H1 e1 => ?_
      refine q_when (b := true) (odd 2 1 y _ _ _ rfl (bad.mono e1)) (fun _ H2 e2 => ?_) (fun z => nomatch z)
      exact ⟨by show 1 ≤ 1000; decide, raise_told (told.back (e1.trans e2))⟩
    · refine q_when (b := false) (et_is (et_or (a := false) (b := false) (et_is (et_not (a := true) (et_B (whole 1 l _ _ _ rfl))) rfl) fun _ => et_is (et_test (ev_op (ev_var rfl) ev_c rv_I0)) (decide_eq_false (by omega))) rfl) (fun z => nomatch z) fun _ H1 e1 => ?_
      refine q_when (b := false) (et_is (et_or (a := false) (b := false) (et_is (et_not (a := true) (et_B (whole 2 p _ _ _ rfl))) rfl) fun _ => et_is (et_test (ev_op (ev_var rfl) ev_c rv_I0)) (decide_eq_false (by omega))) rfl) (fun z => nomatch z) fun _ H2 e2 => ?_
      have e02 := e1.trans e2
      rcases bad.mono e02 with ⟨t, ty, kt⟩ | ⟨q, xs, rfl, hq, hz, short⟩
      · refine q_when (b := true) (et_is (et_or (a := true) (b := true) (et_is (et_not (a := false) (et_B (ev_isi (ea_cons (ev_var rfl) (ea_cons ev_c ea_nil)) (.ty _) ty (kit_ty kt)))) rfl) fun z => nomatch z) rfl) (fun _ H3 e3 => ?_) (fun z => nomatch z)
        exact ⟨by show 1 ≤ 1000; decide, raise_told (told.back (e02.trans e3))⟩
      · refine q_when (b := decide (xs.length ≠ l + p)) (et_is (et_or (a := false) (b := decide (xs.length ≠ l + p)) (et_is (et_not (a := true) (et_B (ev_isi (ea_cons (ev_var rfl) (ea_cons ev_c ea_nil)) (.ty _) (fun _ e => .base (.tup (e _ _ hq))) (kit_ty kb_tt)))) rfl) fun _ => et_is (et_test (ev_op (ev_lenW (ew_of (p := q) (xs := xs) (ev_var rfl) hq)) (ev_op (ev_var rfl) (ev_var rfl) rv_I0) (rv_ne rfl))) ?_) (Bool.false_or _)) (fun _ H3 e3 => ?_) (fun hlen H3 e3 => ?_)
        · rw [← decide_not]
          refine decide_eq_decide.mpr ⟨fun h z => h (congrArg V.int (by omega)), fun h z => h (by injection z with z; omega)⟩
        · exact ⟨by show 1 ≤ 1000; decide, raise_told (told.back (e02.trans e3))⟩
        · have hlen : xs.length = l + p := Decidable.not_not.mp (of_decide_eq_false hlen)
          rcases short with n | ⟨bs, w, rfl, hw⟩
          · exact absurd hlen n
          refine q_when (b := true) (et_is (et_not (a := false) (et_B (ev_is (ev_allL (bs := (List.range (bs.map V.bl ++ [w]).length).map fun i => decide (i < bs.length)) (K := K) (el_is (el_lcW (K := K) (fun _ => true) (fun i => .bl (decide (i < bs.length))) (ew_of (p := q) (ev_var rfl) (e3 _ _ hq)) (by omega) (fun _ => rfl) (fun i x H4 e4 hx => et_yes) fun i x H4 e4 hx _ => ?_) ?_)) (congrArg V.bl ?_)))) rfl) (fun _ H4 e4 => ?_) (fun z => nomatch z)
          · by_cases hi : i < bs.length
            · rw [List.getElem?_append_left (by rw [List.length_map]; exact hi), List.getElem?_map] at hx
              obtain ⟨y, _, rfl⟩ := Option.map_eq_some_iff.mp hx
              rw [decide_eq_true hi]
              exact ev_isi (ea_cons (ev_var rfl) (ea_cons ev_c ea_nil)) (.ty _) (fun _ _ => .base (.bl _)) (kit_ty kb_bl)
            · rw [List.getElem?_append_right (by rw [List.length_map]; omega), List.length_map] at hx
              have i0 : i - bs.length = 0 := by
                have := (List.getElem?_eq_some_iff.mp hx).1
                have e1 : ([w] : List V).length = 1 := rfl
                omega
              rw [i0] at hx
              cases hx
              rw [decide_eq_false hi]
              rcases hw with rfl | rfl
              · exact ev_isi (ea_cons (ev_var rfl) (ea_cons ev_c ea_nil)) (.ty _) (fun _ _ => .base (.int _)) (kit_ty kb_int.2)
              · exact ev_isi (ea_cons (ev_var rfl) (ea_cons ev_c ea_nil)) (.ty _) (fun _ _ => .base .non) (kit_ty kb_nb)
          · rw [given_all, List.map_map]
            rfl
          · refine Bool.eq_false_iff.mpr fun h => ?_
            have := List.all_eq_true.mp h false (List.mem_map.mpr ⟨bs.length, List.mem_range.mpr (by simp), decide_eq_false (Nat.lt_irrefl _)⟩)
            cases this
          · exact ⟨by show 1 ≤ 1000; decide, raise_told (told.back ((e02.trans e3).trans e4))⟩
end
end KF
set_option Elab.async false
set_option linter.all false
set_option maxRecDepth 100000
set_option maxHeartbeats 4000000
namespace KF
open PySem PySem.Spec PyProof.Rows L2 Evl
local macro_rules | `(tactic| walk_at "ev") => `(tactic| repeat' (first | exact ev_c | exact ev_var rfl | exact rv_I0 | refine' rv_I ?_ | refine' rv_eq ?_ | refine' rv_ne ?_ | refine' ev_op ?_ ?_ ?_ | exact ea_nil | refine' ea_cons ?_ ?_ | refine' et_test ?_ | refine' et_B ?_ | refine' et_not ?_ | refine' ev_notV ?_))

open PySem LamX KErr
section
variable {K : PySem.W.Frag} {σ : L2.St} {H : Hp} {te tc : TE} {D a0 dd : Addr} {fs : List (Str × V)} {c v : V} {cv : Value} {b : Bool} {f : Str}
theorem ev_isE (hv : Ev te σ H (.ref a0)) (hc : Ev tc σ H c) (rel : ∀ u, RelV c u → u = cv) (hE : ErrAt H a0 D dd fs) (e : PySem.W.kitOne K (.ref D) cv = some b) : Ev (tCB (rIsE K D) (tCons te (tCons tc tNil))) σ H (.bl b) := fun H1 e1 Q q =>
  hv H1 e1 _ fun H2 e2 => hc H2 (e1.trans e2) _ fun H3 e3 => ⟨a0, dd, fs, c, cv, b, rfl, rel, hE.mono ((e1.trans e2).trans e3), e, q H3 (e2.trans e3)⟩
theorem ev_errF (hv : Ev te σ H (.ref a0)) (hE : ErrAt H a0 D dd fs) (l : fs.lookup f = some v) : Ev (tErrF D f te) σ H v := fun H1 e1 Q q => hv H1 e1 _ fun H2 e2 => ⟨a0, dd, fs, v, rfl, hE.mono (e1.trans e2), l, q H2 e2⟩
end
/-- what a refusal tells -/
def PartX (a : Ads) (Q : VK) : XK := fun cls d H' => cls = .ref a.x_BadBeat ∧ ∃ (dd : Addr) (s : Str), d = some dd ∧ H' dd = some (.xd [(("part" : Str), .str s)]) ∧ ∀ H'', Ex H' H'' → Q (.str s) H''
def TPart (a : Ads) : (XK → Hp → VK → Prop) → Hp → VK → Prop := fun tl H Q => ∀ Q' : VK, (∀ x H1, (∀ H2, Ex H1 H2 → Q .non H2) → Q' x H1) → tl (PartX a Q) H Q'
theorem part_gives {X : Cx} {a : Ads} {q : Str} {cdv : Value} (T : Txt X.w X.K X.mg a) : GivesTo X n__law_part "_law_part" (defScope s__law_part) a.f__law_part cdv (defBody s__law_part) "_law_ask" q (TPart a) := by
  intro f c' s H Q tl act hc h
  refine ⟨_, pss_cons (ps_set (i := 1) sc__law_part.nd rfl (Or.inl rfl) pe_non) (pss_cons (ps_try_keep (X := (cxOf C8.CX0 X.prog X.w X.K X.mg X.base n__law_part "_law_part" (defScope s__law_part) a.f__law_part cdv X.A X.stack s H C8.E0).nox) (c := .ref a.x_ModesError) (i := 2)
      (tb := fun W D σ H => ∃ Ech : XK, (∀ cls d σ' H', Ech cls d H' → σ'.length = 3 → W cls d σ' H') ∧ σ[0]? = some (some (.ref f)) ∧ H c' = some (CodeO c' q) ∧ tl Ech H fun x H1 => D.nx σ H1)
      (ts := fun _ _ _ => tAsg (tVar 2) (gName 1))
      rfl rfl rfl sc__law_part.nd rfl rfl ⟨rfl, by decide, .inl T.mg_ModesError⟩ (fun W pn xe tk _ => ?body) (fun a0 oe cls d pn hz hf => pss_one (ps_set (i := 1) sc__law_part.nd rfl (Or.inl rfl) (pv 2)))) (pss_cons (ps_if (pt_cmpR op_isN (pv 1) pe_non (nomark _)) (pss_one (ps_ret pe_non)) pss_nil)
    (pss_one (ps_ret (pe_ifExp (PW.pt (pw_and (pt_val (pe_callB (call_isE T.ec_BadBeat (cl_of T.ec_BadBeat)) (by rfl) T.b_isinstance PyProof.Rows.boot_isinstance (pa_cons (pv 1) (pa_cons (pe_glob (v := .ref a.x_BadBeat) rfl T.mg_BadBeat rfl) pa_nil)))) (pw_and1 (pt_val (pe_callB (call_isE T.ec_BadBeat (cl_of T.ec_BadBeat)) (by rfl) T.b_isinstance PyProof.Rows.boot_isinstance (pa_cons (pv 1) (pa_cons (pe_bltn (v := .ty "ValueError") (by rfl) T.b_ValueError PyProof.Rows.Boot.«ValueError» rfl) pa_nil))))))) (pe_errF T.ec_BadBeat T.np_BadBeat (pv 1)) pe_str))))), ?reading⟩
  case body =>
    refine ⟨fun pins s' σ H' D I h' => ?_⟩
    obtain ⟨Ech, hW, h1, h2, h3⟩ := h'
    exact (pss_one (ps_expr (act _ pn xe Ech _ _ (takes_len tk) (fun cls d σ' H' e => hW cls d σ' H' e)))).run pins s' σ H' D I ⟨h1, h2, h3⟩
  case reading =>
    refine q_asgRaw ?_
    refine ⟨PartX a Q, fun cls d σ' H' hx len => ?_, rfl, hc, ?_⟩
    · obtain ⟨hcls, dd, s, hd, hxd, kk⟩ := hx
      refine ⟨by rw [hcls]; exact T.em_BadBeat, fun a0 oe ha0 hz hf => ?_⟩
      match σ', len with
      | [x, y, z], _ =>
        refine ⟨.ref a0, rfl, ?_⟩
        have hE : ErrAt (upd H' a0 (errO a0 oe)) a0 a.x_BadBeat dd [(("part" : Str), .str s)] := ⟨oe, upd_same, by rw [hz.1, hcls], by rw [hz.2, hd], hf, by rw [upd_ne (ne_of_none hxd ha0)]; exact hxd⟩
        refine q_when (b := false) (et_is (et_test (ev_op (ev_var (v := .ref a0) rfl) ev_c rv_isN)) (decide_eq_false (fun z => nomatch z))) (fun z => nomatch z) fun _ H2 e2 => ?_
        refine s_ret (v := .str s) (ev_if (b := true) (et_and (a := true) (b := true) (et_B (ev_isE (K := X.K) (ev_var rfl) ev_c (fun u r => r) (hE.mono e2) T.ks_BadBeat)) fun _ => et_B (ev_isE (K := X.K) (ev_var rfl) ev_c (fun u r => r) (hE.mono e2) T.ks_ValueError)) (fun _ => ev_errF (ev_var rfl) (hE.mono e2) (by simp [List.lookup])) fun z => nomatch z) fun H3 e3 => kk H3 (((Ex.new ha0).trans e2).trans e3)
    · refine h _ fun v H1 k => ?_
      refine q_when (b := true) (et_is (et_test (ev_op (ev_var (v := .non) rfl) ev_c rv_isN)) rfl) (fun _ H2 e2 => ?_) (fun z => nomatch z)
      exact s_ret (v := .non) ev_c fun H3 e3 => k H3 (e2.trans e3)
end KF
set_option Elab.async false
set_option linter.all false
set_option maxRecDepth 100000
set_option maxHeartbeats 4000000
namespace KF
open PySem PySem.Spec PyProof.Rows L2 Evl
local macro_rules | `(tactic| walk_at "ev") => `(tactic| repeat' (first | exact ev_c | exact ev_var rfl | exact rv_I0 | refine' rv_I ?_ | refine' rv_eq ?_ | refine' rv_ne ?_ | refine' ev_op ?_ ?_ ?_ | exact ea_nil | refine' ea_cons ?_ ?_ | refine' et_test ?_ | refine' et_B ?_ | refine' et_not ?_ | refine' ev_notV ?_))

open PySem LamX KErr
/-! ### what stays while the pen draws and lambdas are made -/
abbrev qR : Str := "_law_refused_right" ++ ".<locals>." ++ "<lambda>"
abbrev tabsT (a : Ads) : List (Addr × Str) := [(a.PR, qR)]
theorem tabs_uR (a : Ads) : ∀ p ∈ tabsT a, p.1 = a.PR → p.2 = qR := fun p m _ => by
  rw [List.mem_singleton.mp m]
theorem tabs_keep {T : List (Addr × Str)} {H H' : Hp} (t : Tabs T H) (e : Ex H H') : Tabs T H' := LamX.Tabs.ext t e
theorem tabs_pen {T : List (Addr × Str)} {H H' : Hp} {p : Addr} {n : Nat} (t : Tabs T H) (hp : PenAt H p n) (e : ExB p H H') : Tabs T H' := fun q hq => by
  obtain ⟨ps, h1, tr, h2⟩ := t q hq
  obtain ⟨l, ns, at_, rest, hd, _⟩ := hp
  refine ⟨ps, e _ _ h1 (ne_of h1 hd fun z => nomatch z), tr, fun pos cv hc => ?_⟩
  obtain ⟨c, e1, e2⟩ := h2 pos cv hc
  exact ⟨c, e1, e _ _ e2 (ne_of e2 hd fun z => nomatch z)⟩
theorem tab_app {H : Hp} {T : List (Addr × Str)} {l : Addr} {xs ys : List V} (t : Tabs T H) (hl : H l = some (.lst xs)) : Tabs T (upd H l (.lst ys)) := fun q hq => by
  obtain ⟨ps, h1, tr, h2⟩ := t q hq
  refine ⟨ps, by rw [upd_ne (ne_of h1 hl fun z => nomatch z)]; exact h1, tr, fun pos cv hc => ?_⟩
  obtain ⟨c, e1, e2⟩ := h2 pos cv hc
  exact ⟨c, e1, by rw [upd_ne (ne_of e2 hl fun z => nomatch z)]; exact e2⟩
/-- the pen, its cells at l -/
def PenL (H : Hp) (p l : Addr) (n : Nat) : Prop := ∃ (ns : List Int) (at_ : Nat) (rest : Int), H p = some (.lst [.ref l, .int at_, .int rest]) ∧ H l = some (.lst (ns.map V.int)) ∧ l ≠ p ∧ at_ ≤ n ∧ 0 ≤ rest ∧ ns.length ≤ 63
section
variable {H H' : Hp} {p l d : Addr} {n m : Nat}
theorem PenL.pen (h : PenL H p l n) : PenAt H p n := let ⟨ns, a, r, q⟩ := h; ⟨l, ns, a, r, q⟩
theorem PenAt.fixL (h : PenAt H p n) : ∃ l, PenL H p l n := let ⟨l, ns, a, r, q⟩ := h; ⟨l, ns, a, r, q⟩
theorem PenL.keep (h : PenL H p l n) (e : Ex H H') : PenL H' p l n := let ⟨ns, a, r, h1, h2, q⟩ := h; ⟨ns, a, r, e _ _ h1, e _ _ h2, q⟩
theorem PenL.keepN (h : PenL H p l n) (e : ExtN H H') : PenL H' p l n := let ⟨ns, a, r, h1, h2, q⟩ := h; ⟨ns, a, r, e _ _ h1 (fun _ z => nomatch z), e _ _ h2 (fun _ z => nomatch z), q⟩
theorem PenL.upd {o : HO} (h : PenL H p l n) (n1 : p ≠ d) (n2 : l ≠ d) : PenL (upd H d o) p l n := let ⟨ns, a, r, h1, h2, q⟩ := h; ⟨ns, a, r, by rw [upd_ne n1]; exact h1, by rw [upd_ne n2]; exact h2, q⟩
theorem PenL.ne (h : PenL H p l n) (z : H d = none) : p ≠ d ∧ l ≠ d := let ⟨_, _, _, h1, h2, _⟩ := h; ⟨ne_of_none h1 z, ne_of_none h2 z⟩
theorem PenL.next (h : PenL H p l n) (b : PenAt H' p m) (c : ExP p H H') : PenL H' p l m := by
  obtain ⟨ns, a, r, h1, _⟩ := h
  obtain ⟨x', y', e⟩ := c.fix l _ _ h1
  obtain ⟨l2, ns2, a2, r2, f1, q⟩ := b
  rw [f1] at e
  cases e
  exact ⟨ns2, a2, r2, f1, q⟩
theorem PenL.more (h : PenL H p l n) (k : n ≤ m) : PenL H p l m := let ⟨ns, a, r, h1, h2, h3, h4, h5⟩ := h; ⟨ns, a, r, h1, h2, h3, Nat.le_trans h4 k, h5⟩
theorem PenAt.ne_tup (h : PenAt H p n) {q : Addr} {xs : List V} (hq : H q = some (.tup xs)) : q ≠ p := let ⟨_, _, _, _, h1, _⟩ := h; ne_of hq h1 fun z => nomatch z
theorem PenAt.ne_new (h : PenAt H p n) {q : Addr} (hq : H q = none) : q ≠ p := let ⟨_, _, _, _, h1, _⟩ := h; (ne_of_none h1 hq).symm
end
/-- all stays but the pen and the tables -/
def StP (p : Addr) (H H' : Hp) : Prop := ∀ b o, H b = some o → b ≠ p → (∀ ps, o ≠ .tbl ps) → H' b = some o
theorem StP.of {p : Addr} {H H' : Hp} (e : Ex H H') : StP p H H' := fun b o h _ _ => e b o h
theorem StP.ofB {p : Addr} {H H' : Hp} (e : ExB p H H') : StP p H H' := fun b o h n _ => e b o h n
theorem StP.ofN {p : Addr} {H H' : Hp} (e : ExtN H H') : StP p H H' := fun b o h _ t => e b o h t
theorem StP.trans {p : Addr} {H H1 H2 : Hp} (a : StP p H H1) (b : StP p H1 H2) : StP p H H2 := fun c o h n t => b c o (a c o h n t) n t
def BN (K : PySem.W.Frag) (p : Addr) (m : Int) (H : Hp) (x : V) : Prop := (∃ (t : String) (b1 b2 : Bool), (∀ H1, StP p H H1 → TyX K H1 x (.type t)) ∧ kitB t "int" = some b1 ∧ kitB t "bool" = some b2 ∧ (b1 && !b2) = false) ∨ ∃ i : Int, x = .int i ∧ i < m
def BA (K : PySem.W.Frag) (p : Addr) (n : Nat) (H : Hp) (z : V) : Prop := (∃ t : String, (∀ H1, StP p H H1 → TyX K H1 z (.type t)) ∧ kitB t "tuple" = some false) ∨ ∃ (q : Addr) (xs : List V), z = .ref q ∧ H q = some (.tup xs) ∧ q ≠ p ∧ xs.length ≤ 1000 ∧ (xs.length ≠ n ∨ ∃ (bs : List Bool) (w : V), xs = bs.map V.bl ++ [w] ∧ (w = .int 1 ∨ w = .non))
def Stb (p : Addr) (B : Hp → V → Prop) : Prop := ∀ H H' x, B H x → StP p H H' → B H' x
theorem stb_bn {K : PySem.W.Frag} {p : Addr} {m : Int} : Stb p (BN K p m) := fun H H' x h e => h.imp (fun ⟨t, b1, b2, ty, r⟩ => ⟨t, b1, b2, fun H1 e1 => ty H1 (e.trans e1), r⟩) id
theorem stb_ba {K : PySem.W.Frag} {p : Addr} {n : Nat} : Stb p (BA K p n) := fun H H' x h e => h.imp (fun ⟨t, ty, r⟩ => ⟨t, fun H1 e1 => ty H1 (e.trans e1), r⟩) fun ⟨q, xs, h1, h2, h3, r⟩ => ⟨q, xs, h1, e _ _ h2 h3 (fun _ z => nomatch z), h3, r⟩
theorem BN.bad {K : PySem.W.Frag} {p : Addr} {m : Int} {H : Hp} {x : V} (h : BN K p m H x) : BadN K H x m := h.imp (fun ⟨t, b1, b2, ty, r⟩ => ⟨t, b1, b2, fun H1 e1 => ty H1 (StP.of e1), r⟩) id
theorem BA.bad {K : PySem.W.Frag} {p : Addr} {n : Nat} {H : Hp} {x : V} (h : BA K p n H x) : BadA K H x n := h.imp (fun ⟨t, ty, r⟩ => ⟨t, fun H1 e1 => ty H1 (StP.of e1), r⟩) fun ⟨q, xs, h1, h2, _, r⟩ => ⟨q, xs, h1, h2, r⟩
/-! ### lists of odd values -/
def EvB (B : Hp → V → Prop) (te : TE) (σ : L2.St) (H : Hp) : Prop := ∀ H1, Ex H H1 → ∀ Q : VK, (∀ x H2, Ex H1 H2 → B H2 x → Q x H2) → te σ H1 Q
def EvBs (B : Hp → V → Prop) (ta : TA) (σ : L2.St) (H : Hp) (n : Nat) : Prop := ∀ H1, Ex H H1 → ∀ Q : List V → Hp → Prop, (∀ xs H2, Ex H1 H2 → xs.length = n → (∀ x ∈ xs, B H2 x) → Q xs H2) → ta σ H1 Q
section
variable {K : PySem.W.Frag} {σ : L2.St} {H : Hp} {te : TE} {ta : TA} {B : Hp → V → Prop} {p : Addr} {n k m : Nat} {x : V} {i : Int} {b : Bool} {xs : List V} {Q : VK} {E : XK}
theorem ebs_nil : EvBs B tNil σ H 0 := fun H1 _ Q q => q [] H1 (Ex.refl H1) rfl (fun _ z => nomatch z)
theorem ebs_cons (st : Stb p B) (h : EvB B te σ H) (r : EvBs B ta σ H n) : EvBs B (tCons te ta) σ H (n + 1) := fun H1 e Q q =>
  h H1 e _ fun x H2 e2 bx => r H2 (e.trans e2) _ fun xs H3 e3 l all => q (x :: xs) H3 (e2.trans e3) (by rw [List.length_cons, l]) fun z hz => by
    rcases List.mem_cons.mp hz with rfl | hz
    · exact st _ _ _ bx (StP.of e3)
    · exact all z hz
theorem eb_v (h : Ev te σ H x) (bx : ∀ H1, B H1 x) : EvB B te σ H := fun H1 e Q q => h H1 e _ fun H2 e2 => q x H2 e2 (bx H2)
theorem kn : kitB "NoneType" "int" = some false ∧ kitB "NoneType" "bool" = some false ∧ kitB "NoneType" "tuple" = some false := by decide +kernel
theorem kb : kitB "bool" "int" = some true ∧ kitB "bool" "bool" = some true := by decide +kernel
theorem ks : kitB "str" "int" = some false ∧ kitB "str" "bool" = some false ∧ kitB "str" "tuple" = some false := by decide +kernel
theorem kt : kitB "tuple" "int" = some false ∧ kitB "tuple" "bool" = some false := by decide +kernel
theorem kl : kitB "list" "int" = some false ∧ kitB "list" "bool" = some false ∧ kitB "list" "tuple" = some false := by decide +kernel
theorem kd : kitB "dict" "int" = some false ∧ kitB "dict" "bool" = some false := by decide +kernel
theorem ki : kitB "int" "tuple" = some false := by decide +kernel
theorem bn_non {z : Int} : BN K p z H .non := .inl ⟨"NoneType", _, _, fun _ _ => .base .non, kn.1, kn.2.1, rfl⟩
theorem bn_bl {z : Int} : BN K p z H (.bl b) := .inl ⟨"bool", _, _, fun _ _ => .base (.bl _), kb.1, kb.2, rfl⟩
theorem bn_str {z : Int} {s : Str} : BN K p z H (.str s) := .inl ⟨"str", _, _, fun _ _ => .base (.str _), ks.1, ks.2.1, rfl⟩
theorem bn_int {z : Int} (h : i < z) : BN K p z H (.int i) := .inr ⟨i, rfl, h⟩
theorem eb_nl {z : Int} (hp : PenAt H p n) (h : EvL te σ H xs) : EvB (BN K p z) te σ H := fun H1 e Q q => h H1 e _ fun l H2 hl e2 h2 => q _ H2 e2 (.inl ⟨"list", _, _, fun _ e3 => .base (.lst (e3 _ _ h2 ((hp.keep e).ne_new hl) (fun _ z => nomatch z))), kl.1, kl.2.1, rfl⟩)
theorem eb_nu {z : Int} (hp : PenAt H p n) (h : EvU te σ H xs) : EvB (BN K p z) te σ H := fun H1 e Q q => h H1 e _ fun l H2 hl e2 h2 => q _ H2 e2 (.inl ⟨"tuple", _, _, fun _ e3 => .base (.tup (e3 _ _ h2 ((hp.keep e).ne_new hl) (fun _ z => nomatch z))), kt.1, kt.2, rfl⟩)
theorem eb_nd {z : Int} (hp : PenAt H p n) : EvB (BN K p z) tDNewK σ H := fun H1 e Q q l hl => q _ _ (Ex.new hl) (.inl ⟨"dict", _, _, fun _ e3 => .base (.dK (e3 _ _ upd_same ((hp.keep e).ne_new hl) (fun _ z => nomatch z))), kd.1, kd.2, rfl⟩)
theorem ba_non : BA K p m H .non := .inl ⟨"NoneType", fun _ _ => .base .non, kn.2.2⟩
theorem ba_str {s : Str} : BA K p m H (.str s) := .inl ⟨"str", fun _ _ => .base (.str _), ks.2.2⟩
theorem ba_int : BA K p m H (.int i) := .inl ⟨"int", fun _ _ => .base (.int _), ki⟩
theorem eb_al (hp : PenAt H p n) (h : EvL te σ H xs) : EvB (BA K p m) te σ H := fun H1 e Q q => h H1 e _ fun l H2 hl e2 h2 => q _ H2 e2 (.inl ⟨"list", fun _ e3 => .base (.lst (e3 _ _ h2 ((hp.keep e).ne_new hl) (fun _ z => nomatch z))), kl.2.2⟩)
theorem eb_ax (hp : PenAt H p n) (h : EvX te σ H xs) (hz : xs.length ≤ 1000) (w : xs.length ≠ m ∨ ∃ (bs : List Bool) (w : V), xs = bs.map V.bl ++ [w] ∧ (w = .int 1 ∨ w = .non)) : EvB (BA K p m) te σ H := fun H1 e Q q => h H1 e _ fun l H2 e2 h2 => q _ H2 e2 (.inr ⟨l, xs, rfl, h2, (hp.keep (e.trans e2)).ne_tup h2, hz, w⟩)
/-- one of such values -/
theorem pick_bs {j : Nat} (hs : σ[j]? = some (some (.ref p))) (st : Stb p B) (hp : PenAt H p n) (hn : n < 100000) (h : EvBs B ta σ H k) (h0 : 0 < k) (h1 : k ≤ 1000) (q : ∀ x H', B H' x → ExP p H H' → PenAt H' p (n + 1) → Q x H') : tCall spPick [] E (tCons (tVar j) (tCons (tLst ta) tNil)) σ H Q :=
  ⟨.ref p, hs, h H (Ex.refl H) _ fun xs H1 e1 l all => ⟨sz_of (by omega), fun s hs1 => by
    have sp := (hp.keep e1).ne_new hs1
    have en := Ex.new hs1 (o := .lst xs)
    exact ⟨p, s, xs, n, rfl, (hp.keep e1).keep en, hn, upd_same, sp, by omega, by omega, fun x H2 hx e2 hp2 => q x H2 (st _ _ _ (all x hx) ((StP.of en).trans (StP.ofB e2.ex))) ((ExP.of (e1.trans en)).trans e2) hp2⟩⟩⟩
theorem q_asgBs {D : Ends} {tz : TS} {j : Nat} (st : Stb p B) (h : EvBs B ta σ H k) (hk : k ≤ 100) (q : ∀ l xs H1, H l = none → Ex H H1 → xs.length = k → (∀ x ∈ xs, B H1 x) → H1 l = some (.lst xs) → tz D (σ.set j (some (.ref l))) H1) : tSeq (tAsg (tLst ta) (gName j)) tz D σ H :=
  h H (Ex.refl H) _ fun xs H1 e l all => ⟨by rw [l]; exact Nat.le_trans hk (by decide), fun c hc => q c xs _ (fresh_back e hc) (e.trans (Ex.new hc)) l (fun x hx => st _ _ _ (all x hx) (StP.of (Ex.new hc))) upd_same⟩
end
section
variable {K : PySem.W.Frag} {σ : L2.St} {H : Hp} {te : TE} {D : Ends} {tz : TS} {i j : Nat} {l : Addr} {ys : List V}
theorem q_lst1 (h : te σ H fun v H1 => [v].length ≤ sizeLine ∧ ∀ p, H1 p = none → tz D (σ.set i (some (.ref p))) (upd H1 p (.lst [v]))) : tSeq (tAsg (tLst (tCons te tNil)) (gName i)) tz D σ H := h
theorem q_app1 (hj : σ[j]? = some (some (.ref l))) (hl : H l = some (.lst ys)) (h : te σ H fun v H2 => ∃ l' xs y, V.ref l = .ref l' ∧ [v] = [y] ∧ H2 l' = some (.lst xs) ∧ xs.length < sizeLine ∧ tz D σ (upd H2 l' (.lst (xs ++ [y])))) : tSeq (tDrop (tBM K "list" rAppend (tVar j) (tCons te tNil))) tz D σ H :=
  ⟨.ref l, hj, Or.inl ⟨rfl, ys, sq_of hl⟩, h⟩
end
/-! ### a beat asked for under the law's own try -/
def WrongS (K : PySem.W.Frag) (p : Addr) (H : Hp) (x y z : V) (s : Str) : Prop := (BN K p 0 H x ∧ s = "lead") ∨ ∃ l : Nat, x = .int (l : Nat) ∧ ((BN K p 1 H y ∧ s = "period") ∨ ∃ q : Nat, y = .int (q : Nat) ∧ 0 < q ∧ BA K p (l + q) H z ∧ s = "answers")
section
variable {K : PySem.W.Frag} {a : Ads} {T : List (Addr × Str)} {σ : L2.St} {H H' : Hp} {t1 t2 t3 : TE} {x y z : V} {p t : Addr} {s : Str} {Q : VK} {l m : Nat} {as : List Bool}
theorem WrongS.st (h : WrongS K p H x y z s) (e : StP p H H') : WrongS K p H' x y z s := by
  rcases h with ⟨h, r⟩ | ⟨l, hx, ⟨h, r⟩ | ⟨q, hy, hq, h, r⟩⟩
  · exact .inl ⟨stb_bn _ _ _ h e, r⟩
  · exact .inr ⟨l, hx, .inl ⟨stb_bn _ _ _ h e, r⟩⟩
  · exact .inr ⟨l, hx, .inr ⟨q, hy, hq, stb_ba _ _ _ h e, r⟩⟩
theorem WrongS.wrong (h : WrongS K p H x y z s) : Wrong K H x y z s := by
  rcases h with ⟨h, r⟩ | ⟨l, hx, ⟨h, r⟩ | ⟨q, hy, hq, h, r⟩⟩
  · exact .inl ⟨h.bad, r⟩
  · exact .inr ⟨l, hx, .inl ⟨h.bad, r⟩⟩
  · exact .inr ⟨l, hx, .inr ⟨q, hy, hq, h.bad, r⟩⟩
theorem part_bad (tabs : Tabs T H) (h1 : ∀ H, Ev t1 σ H x) (h2 : ∀ H, Ev t2 σ H y) (h3 : ∀ H, Ev t3 σ H z) (bad : WrongS K p H x y z s) (kk : ∀ H', ExtN H H' → Tabs T H' → Q (.str s) H') :
    tLam T (TPart a) (fun E => tMake a.f_Beat (spBeatB K a) [] E (tCons t1 (tCons t2 (tCons t3 tNil)))) σ H Q :=
  ⟨tabs, fun H1 eN T1 Q' imp => h1 H1 H1 (Ex.refl _) _ fun H2 e2 => h2 H2 H2 (Ex.refl _) _ fun H3 e3 => h3 H3 H3 (Ex.refl _) _ fun H4 e4 => fun b db hb hdb hne => by
    have hb2 : upd H4 db (.own b) b = none := by rw [upd_ne (Ne.symm hne)]; exact hb
    have e0 : Ex H1 (upd (upd H4 db (.own b)) b (.ins a.f_Beat db [])) := (((e2.trans e3).trans e4).trans (Ex.new hdb)).trans (Ex.new hb2)
    exact ⟨b, db, x, y, z, s, rfl, upd_same, (bad.st ((StP.ofN eN).trans (StP.of e0))).wrong, fun d H' hd e' h' => ⟨rfl, d, s, rfl, h', fun H'' e'' => kk H'' (eN.trans (ExtN.of ((e0.trans e').trans e''))) (tabs_keep T1 ((e0.trans e').trans e''))⟩⟩⟩
theorem part_good (tabs : Tabs T H) (h1 : ∀ H, Ev t1 σ H (.int (l : Nat))) (h2 : ∀ H, Ev t2 σ H (.int (m : Nat))) (h3 : ∀ H, Ev t3 σ H (.ref t)) (R : Right l m as) (ht : H t = some (.tup (as.map V.bl))) (kk : ∀ H', ExtN H H' → Tabs T H' → Q .non H') :
    tLam T (TPart a) (fun E => tMake a.f_Beat (spBeat a) [] E (tCons t1 (tCons t2 (tCons t3 tNil)))) σ H Q :=
  ⟨tabs, fun H1 eN T1 Q' imp => h1 H1 H1 (Ex.refl _) _ fun H2 e2 => h2 H2 H2 (Ex.refl _) _ fun H3 e3 => h3 H3 H3 (Ex.refl _) _ fun H4 e4 => fun b db hb hdb hne => by
    have hb2 : upd H4 db (.own b) b = none := by rw [upd_ne (Ne.symm hne)]; exact hb
    have e0 : Ex H1 (upd (upd H4 db (.own b)) b (.ins a.f_Beat db [])) := (((e2.trans e3).trans e4).trans (Ex.new hdb)).trans (Ex.new hb2)
    have e14 := (e2.trans e3).trans e4
    refine ⟨b, db, t, l, m, as, rfl, R, upd_same, e0 _ _ (eN _ _ ht (fun _ z => nomatch z)), fun H5 e5 h5 => ⟨rfl, imp _ _ fun H6 e6 => ?_⟩⟩
    have e15 : Ex H1 H5 := fun c o hc => e5 _ _ (e0 _ _ hc) (ne_of_none (e14 _ _ hc) hb)
    exact kk H6 (eN.trans (ExtN.of (e15.trans e6))) (tabs_keep T1 (e15.trans e6))⟩
end
theorem StP.mut {p f : Addr} {H H' : Hp} {o : HO} (s : StP p H H') (hf : H f = none) : StP p H (upd H' f o) := fun b u hb ne nt => by
  rw [upd_ne (ne_of_none hb hf)]
  exact s b u hb ne nt
def dueL : List V := [.str "lead", .str "period", .str "answers", .str "answers", .non]
def dueD : PyData := .list [.str "lead", .str "period", .str "answers", .str "answers", .none]
theorem rv_due {K : PySem.W.Frag} {H : Hp} {f q : Addr} (h1 : H f = some (.lst dueL)) (h2 : H q = some (.lst dueL)) : RV (rEqD K) (.ref f) (.ref q) H (.bl true) := fun H1 e Q k =>
  ⟨dueD, dueD, .lst (sq_of (e _ _ h1)) (.cons (.str _) (.cons (.str _) (.cons (.str _) (.cons (.str _) (.cons .non .nil))))), .lst (sq_of (e _ _ h2)) (.cons (.str _) (.cons (.str _) (.cons (.str _) (.cons (.str _) (.cons .non .nil))))), by decide +kernel, by decide +kernel, by
    rw [show PyData.eqv dueD dueD = true by decide +kernel]
    exact k H1 (Ex.refl H1)⟩
def spRefused (a : Ads) : Sp := fun vs H Q _ => ∃ (p t : Addr) (n l m : Nat) (as : List Bool), vs = [.ref p, .int (l : Nat), .int (m : Nat), .ref t] ∧ PenAt H p n ∧ n + 3 ≤ 100000 ∧ Tabs (tabsT a) H ∧ Right l m as ∧ H t = some (.tup (as.map V.bl)) ∧ ∀ H', StP p H H' → PenAt H' p (n + 3) → Tabs (tabsT a) H' → Q (.bl true) H'
section
variable {P : Program} {w : World} {K : PySem.W.Frag} {mg : Str → Option Value} {base : Heap} {a : Ads}
theorem ok_refused (T : Txt w K mg a) (TBR : TabB base mg a.cR a.PR) : KD.FnG P w K mg base 10 a.f__law_refused_right a.d__law_refused_right ["_law_pen_here", "_law_lead", "_law_period", "_law_answers"] (spRefused a) := by
  obtain ⟨ocR, odR, kVR, docR, pmR, anR, ctR, oslR, eR, lkR⟩ := T.cr
  rw [eR] at lkR
  rw [eR]
  have G__law_pick : FnOk P w K mg base CX0 9 _ _ _ _ := (ok_pick T).mono (by decide)
  have G_Beat_init : FnOk P w K mg base CX0 4 _ _ _ _ := (ok_Beat_init T).mono (by decide)
  have G_initB : FnOk P w K mg base (L2.CX P w) 4 _ _ _ _ := ok_init_bad T
  refine KD.fnG_of lkR T.cr_code sc__law_refused_right (fun vs H Q E h => ?_) fun A outer s H vs Q E gd hr h => ?_
  · obtain ⟨_, _, _, _, _, _, rfl, _⟩ := h
    rfl
  · obtain ⟨p, t, n, l, m, as, rfl, pen, hn, tab, R, ht, k⟩ := h
    have hrc : Room 9 _ := hr
    have hr7 : Room 7 _ := hrc.mono (by decide)
    obtain ⟨ocH, odH, kVH, docH, pmH, anH, cdvH, ctH, oslH, eH, lkH, hcdH⟩ := id T.fn__law_part.ex
    have hbH := bd__law_part T
    rw [eH] at lkH hbH
    refine ⟨_, (show PSs (cxOf CX0 P w K mg base n__law_refused_right "_law_refused_right" (defScope s__law_refused_right) a.f__law_refused_right (.ref a.cR) A outer s H E).nox (defBody s__law_refused_right) _ from (pss_cons (ps_set (i := 7) sc__law_refused_right.nd rfl (Or.inr rfl) (pe_call G__law_pick hrc rfl T.mg__law_pick T.fn__law_pick.kp (bd__law_pick T) .nil pass0 (pa_cons (pv 0) (pa_cons (pe_lst (pa_cons (pe_un un_neg pe_int) (pa_cons pe_non (pa_cons pe_bl (pa_cons pe_str (pa_cons (pe_tup (pa_cons pe_int pa_nil)) (pa_cons (pe_un un_neg (pe_op op_pow pe_int pe_int)) pa_nil))))))) pa_nil))))
    (pss_cons (ps_set (i := 8) sc__law_refused_right.nd rfl (Or.inr rfl) (pe_call G__law_pick hrc rfl T.mg__law_pick T.fn__law_pick.kp (bd__law_pick T) .nil pass0 (pa_cons (pv 0) (pa_cons (pe_lst (pa_cons pe_int (pa_cons (pe_un un_neg pe_int) (pa_cons pe_non (pa_cons pe_bl (pa_cons pe_str (pa_cons (pe_lst (pa_cons pe_int pa_nil)) (pa_cons pe_dnewK pa_nil)))))))) pa_nil))))
    (pss_cons (ps_set (i := 4) sc__law_refused_right.nd rfl (Or.inl rfl) (pe_lst (pa_cons pe_non (pa_cons (pe_callTy call_list_of (by rfl) T.b_list (by decide +kernel) (pa_cons (pv 3) pa_nil)) (pa_cons (pe_op op_catA (pv 3) (pe_tup (pa_cons pe_bl pa_nil))) (pa_cons (pe_slice sl_tupA (pv 3) (po_some pe_int) po_none) (pa_cons (pe_op op_catA (pe_slice sl_tupA (pv 3) po_none (po_some (pe_un un_neg pe_int))) (pe_tup (pa_cons pe_int pa_nil))) (pa_cons (pe_op op_catA (pe_slice sl_tupA (pv 3) po_none (po_some (pe_un un_neg pe_int))) (pe_tup (pa_cons pe_non pa_nil))) (pa_cons pe_str (pa_cons pe_int pa_nil))))))))))
    (pss_cons (ps_set (i := 6) sc__law_refused_right.nd rfl (Or.inr rfl) (pe_call G__law_pick hrc rfl T.mg__law_pick T.fn__law_pick.kp (bd__law_pick T) .nil pass0 (pa_cons (pv 0) (pa_cons (pv 4) pa_nil))))
    (pss_cons (ps_set (i := 5) sc__law_refused_right.nd rfl (Or.inl rfl) (pe_lst (pa_cons (pe_lamcall (T := tabsT a) (TT := TPart a) rfl T.mg__law_part T.fn__law_part.kp lkH hcdH hbH sc__law_part rfl (Or.inl rfl) (part_gives T) TBR rfl (List.mem_singleton.mpr rfl) (tabs_uR a) (k := 5) hr7 (lamS_by (show lamSB (defScope s__law_refused_right) _ = true by decide +kernel)) rfl (fun _ _ _ _ _ => rfl) (fun _ _ _ _ _ _ _ hr2 => (pe_make T.mk_Beat G_initB (show Room (4 + 1) _ from hr2) rfl T.mg_Beat (bd_BeatD_initD T) .nil (passes_call (takes_of rfl rfl rfl rfl) fun _ _ _ _ h => h) (pa_cons (pv 7) (pa_cons (pv 8) (pa_cons (pv 6) pa_nil)))))) pa_nil)))
    (pss_cons (ps_expr (pe_bm PySem.F.plainAttrs_list PySem.F.slot_list_append PySem.F.type_list_append mt_append (pv 5) (pa_cons (pe_lamcall (T := tabsT a) (TT := TPart a) rfl T.mg__law_part T.fn__law_part.kp lkH hcdH hbH sc__law_part rfl (Or.inl rfl) (part_gives T) TBR rfl (List.mem_singleton.mpr rfl) (tabs_uR a) (k := 5) hr7 (lamS_by (show lamSB (defScope s__law_refused_right) _ = true by decide +kernel)) rfl (fun _ _ _ _ _ => rfl) (fun _ _ _ _ _ _ _ hr2 => (pe_make T.mk_Beat G_initB (show Room (4 + 1) _ from hr2) rfl T.mg_Beat (bd_BeatD_initD T) .nil (passes_call (takes_of rfl rfl rfl rfl) fun _ _ _ _ h => h) (pa_cons (pv 1) (pa_cons (pv 8) (pa_cons (pv 6) pa_nil)))))) pa_nil)))
    (pss_cons (ps_expr (pe_bm PySem.F.plainAttrs_list PySem.F.slot_list_append PySem.F.type_list_append mt_append (pv 5) (pa_cons (pe_lamcall (T := tabsT a) (TT := TPart a) rfl T.mg__law_part T.fn__law_part.kp lkH hcdH hbH sc__law_part rfl (Or.inl rfl) (part_gives T) TBR rfl (List.mem_singleton.mpr rfl) (tabs_uR a) (k := 5) hr7 (lamS_by (show lamSB (defScope s__law_refused_right) _ = true by decide +kernel)) rfl (fun _ _ _ _ _ => rfl) (fun _ _ _ _ _ _ _ hr2 => (pe_make T.mk_Beat G_initB (show Room (4 + 1) _ from hr2) rfl T.mg_Beat (bd_BeatD_initD T) .nil (passes_call (takes_of rfl rfl rfl rfl) fun _ _ _ _ h => h) (pa_cons (pv 1) (pa_cons (pv 2) (pa_cons (pv 6) pa_nil)))))) pa_nil)))
    (pss_cons (ps_expr (pe_bm PySem.F.plainAttrs_list PySem.F.slot_list_append PySem.F.type_list_append mt_append (pv 5) (pa_cons (pe_lamcall (T := tabsT a) (TT := TPart a) rfl T.mg__law_part T.fn__law_part.kp lkH hcdH hbH sc__law_part rfl (Or.inl rfl) (part_gives T) TBR rfl (List.mem_singleton.mpr rfl) (tabs_uR a) (k := 5) hr7 (lamS_by (show lamSB (defScope s__law_refused_right) _ = true by decide +kernel)) rfl (fun _ _ _ _ _ => rfl) (fun _ _ _ _ _ _ _ hr2 => (pe_make T.mk_Beat G_initB (show Room (4 + 1) _ from hr2) rfl T.mg_Beat (bd_BeatD_initD T) .nil (passes_call (takes_of rfl rfl rfl rfl) fun _ _ _ _ h => h) (pa_cons (pe_op op_add (pv 1) pe_int) (pa_cons (pv 2) (pa_cons (pv 3) pa_nil)))))) pa_nil)))
    (pss_cons (ps_expr (pe_bm PySem.F.plainAttrs_list PySem.F.slot_list_append PySem.F.type_list_append mt_append (pv 5) (pa_cons (pe_lamcall (T := tabsT a) (TT := TPart a) rfl T.mg__law_part T.fn__law_part.kp lkH hcdH hbH sc__law_part rfl (Or.inl rfl) (part_gives T) TBR rfl (List.mem_singleton.mpr rfl) (tabs_uR a) (k := 5) hr7 (lamS_by (show lamSB (defScope s__law_refused_right) _ = true by decide +kernel)) rfl (fun _ _ _ _ _ => rfl) (fun _ _ _ _ _ _ _ hr2 => (pe_make T.mk_Beat G_Beat_init (show Room (4 + 1) _ from hr2) rfl T.mg_Beat (bd_BeatD_initD T) .nil pass0 (pa_cons (pv 1) (pa_cons (pv 2) (pa_cons (pv 3) pa_nil)))))) pa_nil)))
    (pss_one (ps_ret (pe_cmpR (op_eqD hr.units) (pv 5) (pe_lst (pa_cons pe_str (pa_cons pe_str (pa_cons pe_str (pa_cons pe_str (pa_cons pe_non pa_nil)))))) (nomark _)))))))))))))), ?_⟩
    refine q_asgRaw (pick_bs (p := p) (B := BN K p 0) (k := 6) rfl stb_bn pen (by omega) (ebs_cons stb_bn (eb_v (ev_un ev_c ru_neg) fun _ => bn_int (by decide)) (ebs_cons stb_bn (eb_v ev_c fun _ => bn_non) (ebs_cons stb_bn (eb_v ev_c fun _ => bn_bl) (ebs_cons stb_bn (eb_v ev_c fun _ => bn_str) (ebs_cons stb_bn (eb_nu pen (eu_tup (vs := [.int 0]) (ea_cons ev_c ea_nil) (by show 1 ≤ 100000; decide))) (ebs_cons stb_bn (eb_v (ev_un (ev_op ev_c ev_c (rv_I ⟨by decide, by decide, by decide⟩)) ru_neg) fun _ => bn_int (by decide)) ebs_nil)))))) (by decide) (by decide) fun x H1 bx e1 pen1 => ?_)
    refine q_asgRaw (pick_bs (p := p) (B := BN K p 1) (k := 7) rfl stb_bn pen1 (by omega) (ebs_cons stb_bn (eb_v ev_c fun _ => bn_int (by decide)) (ebs_cons stb_bn (eb_v (ev_un ev_c ru_neg) fun _ => bn_int (by decide)) (ebs_cons stb_bn (eb_v ev_c fun _ => bn_non) (ebs_cons stb_bn (eb_v ev_c fun _ => bn_bl) (ebs_cons stb_bn (eb_v ev_c fun _ => bn_str) (ebs_cons stb_bn (eb_nl pen1 (el_lst (vs := [.int 1]) (ea_cons ev_c ea_nil) (by show 1 ≤ 100000; decide))) (ebs_cons stb_bn (eb_nd pen1) ebs_nil))))))) (by decide) (by decide) fun y H2 bY e2 pen2 => ?_)
    have tp := pen.ne_tup ht
    have ht2 := (e1.trans e2).ex _ _ ht tp
    have hlen := R.len
    have hl9 := R.l9
    have hm9 := R.p9
    have hm0 := R.pos
    have ml : (as.map V.bl).length = l + m := by rw [List.length_map]; exact hlen
    refine q_asgBs (p := p) (B := BA K p (l + m)) (k := 8) stb_ba (ebs_cons stb_ba (eb_v ev_c fun _ => ba_non) (ebs_cons stb_ba (eb_al pen2 (el_listW (K := K) (ew_of (p := t) (xs := as.map V.bl) (ev_var rfl) ht2))) (ebs_cons stb_ba (eb_ax pen2 (ew_cat (K := K) (ew_of (p := t) (xs := as.map V.bl) (ev_var rfl) ht2) (ew_u (eu_tup (vs := [.bl true]) (ea_cons ev_c ea_nil) (by show 1 ≤ 100000; decide))) (by rw [ml]; show l + m + 1 ≤ 100000; omega)) (by rw [List.length_append, ml]; show l + m + 1 ≤ 1000; omega) (.inl (by rw [List.length_append, ml]; show l + m + 1 ≠ l + m; omega))) (ebs_cons stb_ba (eb_ax pen2 (ew_is (ew_sl (K := K) (ew_of (p := t) (xs := as.map V.bl) (ev_var rfl) ht2) (eo_some (i := ((1 : Nat) : Int)) ev_c) eo_none) (cut_from as 1)) (by rw [List.length_map, List.length_drop]; omega) (.inl (by rw [List.length_map, List.length_drop]; omega)))
      (ebs_cons stb_ba (eb_ax pen2 (ew_cat (K := K) (ew_is (ew_sl (K := K) (ew_of (p := t) (xs := as.map V.bl) (ev_var rfl) ht2) eo_none (eo_some (i := -1) (ev_un ev_c ru_neg))) (cut_last as)) (ew_u (eu_tup (vs := [.int 1]) (ea_cons ev_c ea_nil) (by show 1 ≤ 100000; decide))) (by rw [List.length_map, List.length_take]; show _ + 1 ≤ 100000; omega)) (by rw [List.length_append, List.length_map, List.length_take]; show _ + 1 ≤ 1000; omega) (.inr ⟨_, _, rfl, .inl rfl⟩)) (ebs_cons stb_ba (eb_ax pen2 (ew_cat (K := K) (ew_is (ew_sl (K := K) (ew_of (p := t) (xs := as.map V.bl) (ev_var rfl) ht2) eo_none (eo_some (i := -1) (ev_un ev_c ru_neg))) (cut_last as)) (ew_u (eu_tup (vs := [.non]) (ea_cons ev_c ea_nil) (by show 1 ≤ 100000; decide))) (by rw [List.length_map, List.length_take]; show _ + 1 ≤ 100000; omega)) (by rw [List.length_append, List.length_map, List.length_take]; show _ + 1 ≤ 1000; omega) (.inr ⟨_, _, rfl, .inr rfl⟩)) (ebs_cons stb_ba (eb_v ev_c fun _ => ba_str) (ebs_cons stb_ba (eb_v ev_c fun _ => ba_int) ebs_nil)))))))) (by decide) fun sl xs H3 hsl e3 lx all h3 => ?_
    have pen3 := pen2.keep e3
    have slp := pen2.ne_new hsl
    refine ⟨.ref p, rfl, .ref sl, rfl, p, sl, xs, n + 2, rfl, pen3, by omega, h3, slp, by omega, by omega, fun z H4 hz e4 pen4 => ?_⟩
    have bz : BA K p (l + m) H4 z := stb_ba _ _ _ (all z hz) (StP.ofB e4.ex)
    have s14 : StP p H1 H4 := ((StP.ofB e2.ex).trans (StP.of e3)).trans (StP.ofB e4.ex)
    have s24 : StP p H2 H4 := (StP.of e3).trans (StP.ofB e4.ex)
    have s04 : StP p H H4 := (StP.ofB e1.ex).trans s14
    have ht4 := s04 _ _ ht tp (fun _ z => nomatch z)
    have tab4 := tabs_pen (tabs_keep (tabs_pen (tabs_pen tab pen e1.ex) pen1 e2.ex) e3) pen3 e4.ex
    obtain ⟨lc, pl4⟩ := pen4.fixL
    refine q_lst1 (part_bad (K := K) (p := p) (x := x) (y := y) (z := z) (s := "lead") tab4 (fun _ => ev_var rfl) (fun _ => ev_var rfl) (fun _ => ev_var rfl) (.inl ⟨stb_bn _ _ _ bx s14, rfl⟩) fun H5 eN5 tab5 => ⟨by show 1 ≤ sizeLine; decide, fun f hf => ?_⟩)
    have pl5 := pl4.keepN eN5
    obtain ⟨pf, lf⟩ := pl5.ne hf
    have s5 : StP p H5 (upd H5 f (.lst [.str "lead"])) := StP.of (Ex.new hf)
    have s45 : StP p H4 H5 := StP.ofN eN5
    have tab6 := tabs_keep tab5 (Ex.new hf (o := .lst [.str "lead"]))
    have pl6 := pl5.upd (o := .lst [.str "lead"]) pf lf
    have hf6 : (upd H5 f (.lst [.str "lead"])) f = some (.lst [.str "lead"]) := upd_same
    generalize upd H5 f (.lst [.str "lead"]) = H6 at s5 tab6 pl6 hf6
    refine q_app1 rfl hf6 (part_bad (K := K) (p := p) (x := .int (l : Nat)) (y := y) (z := z) (s := "period") tab6 (fun _ => ev_var rfl) (fun _ => ev_var rfl) (fun _ => ev_var rfl) (.inr ⟨l, rfl, .inl ⟨stb_bn _ _ _ bY ((s24.trans s45).trans s5), rfl⟩⟩) fun H7 eN7 tab7 => ⟨f, [.str "lead"], _, rfl, rfl, eN7 _ _ hf6 (fun _ z => nomatch z), by decide, ?_⟩)
    have s7 := (s5.trans (StP.ofN eN7)).mut hf (o := .lst [.str "lead", .str "period"])
    have pl7 := (pl6.keepN eN7).upd (o := .lst [.str "lead", .str "period"]) pf lf
    have tab7 := tab_app (ys := [.str "lead", .str "period"]) tab7 (eN7 _ _ hf6 (fun _ z => nomatch z))
    have hf7 : (upd H7 f (.lst [.str "lead", .str "period"])) f = some (.lst [.str "lead", .str "period"]) := upd_same
    show tSeq _ _ _ _ (upd H7 f (.lst [.str "lead", .str "period"]))
    generalize upd H7 f (.lst [.str "lead", .str "period"]) = H8 at s7 pl7 tab7 hf7
    refine q_app1 rfl hf7 (part_bad (K := K) (p := p) (x := .int (l : Nat)) (y := .int (m : Nat)) (z := z) (s := "answers") tab7 (fun _ => ev_var rfl) (fun _ => ev_var rfl) (fun _ => ev_var rfl) (.inr ⟨l, rfl, .inr ⟨m, rfl, hm0, stb_ba _ _ _ bz (s45.trans s7), rfl⟩⟩) fun H9 eN9 tab9 => ⟨f, [.str "lead", .str "period"], _, rfl, rfl, eN9 _ _ hf7 (fun _ z => nomatch z), by decide, ?_⟩)
    have s9 := (s7.trans (StP.ofN eN9)).mut hf (o := .lst [.str "lead", .str "period", .str "answers"])
    have pl9 := (pl7.keepN eN9).upd (o := .lst [.str "lead", .str "period", .str "answers"]) pf lf
    have tab9 := tab_app (ys := [.str "lead", .str "period", .str "answers"]) tab9 (eN9 _ _ hf7 (fun _ z => nomatch z))
    have hf9 : (upd H9 f (.lst [.str "lead", .str "period", .str "answers"])) f = some (.lst [.str "lead", .str "period", .str "answers"]) := upd_same
    show tSeq _ _ _ _ (upd H9 f (.lst [.str "lead", .str "period", .str "answers"]))
    generalize upd H9 f (.lst [.str "lead", .str "period", .str "answers"]) = Ha at s9 pl9 tab9 hf9
    have hta := (s45.trans s9) _ _ ht4 tp (fun _ z => nomatch z)
    refine q_app1 rfl hf9 (part_bad (K := K) (p := p) (x := .int ((l + 1 : Nat) : Int)) (y := .int (m : Nat)) (z := .ref t) (s := "answers") tab9 (fun _ => ev_is (ev_op (ev_var rfl) ev_c rv_I0) (congrArg V.int (by omega))) (fun _ => ev_var rfl) (fun _ => ev_var rfl) (.inr ⟨l + 1, rfl, .inr ⟨m, rfl, hm0, .inr ⟨t, _, rfl, hta, tp, by omega, .inl (by omega)⟩, rfl⟩⟩) fun Hb eNb tabb => ⟨f, [.str "lead", .str "period", .str "answers"], _, rfl, rfl, eNb _ _ hf9 (fun _ z => nomatch z), by decide, ?_⟩)
    have sb := (s9.trans (StP.ofN eNb)).mut hf (o := .lst [.str "lead", .str "period", .str "answers", .str "answers"])
    have plb := (pl9.keepN eNb).upd (o := .lst [.str "lead", .str "period", .str "answers", .str "answers"]) pf lf
    have tabb := tab_app (ys := [.str "lead", .str "period", .str "answers", .str "answers"]) tabb (eNb _ _ hf9 (fun _ z => nomatch z))
    have hfb : (upd Hb f (.lst [.str "lead", .str "period", .str "answers", .str "answers"])) f = some (.lst [.str "lead", .str "period", .str "answers", .str "answers"]) := upd_same
    show tSeq _ _ _ _ (upd Hb f (.lst [.str "lead", .str "period", .str "answers", .str "answers"]))
    generalize upd Hb f (.lst [.str "lead", .str "period", .str "answers", .str "answers"]) = Hc at sb plb tabb hfb
    refine q_app1 rfl hfb (part_good tabb (fun _ => ev_var rfl) (fun _ => ev_var rfl) (fun _ => ev_var rfl) R ((s45.trans sb) _ _ ht4 tp (fun _ z => nomatch z)) fun Hd eNd tabd => ⟨f, [.str "lead", .str "period", .str "answers", .str "answers"], _, rfl, rfl, eNd _ _ hfb (fun _ z => nomatch z), by decide, ?_⟩)
    have sd := (sb.trans (StP.ofN eNd)).mut hf (o := .lst dueL)
    have pld := (plb.keepN eNd).upd (o := .lst dueL) pf lf
    have tabd := tab_app (ys := dueL) tabd (eNd _ _ hfb (fun _ z => nomatch z))
    have hfd : (upd Hd f (.lst dueL)) f = some (.lst dueL) := upd_same
    show tRet _ _ _ (upd Hd f (.lst dueL))
    generalize upd Hd f (.lst dueL) = He at sd pld tabd hfd
    exact s_ret (v := .bl true) (ev_opL (ev_var rfl) (el_lst (vs := dueL) (ea_cons ev_c (ea_cons ev_c (ea_cons ev_c (ea_cons ev_c (ea_cons ev_c ea_nil))))) (by show 5 ≤ 100000; decide)) fun q Hf hq ef => rv_due (K := K) (ef _ _ hfd) hq) fun Hf ef => k Hf (((s04.trans s45).trans sd).trans (StP.of ef)) (pld.keep ef).pen (tabs_keep tabd ef)
end
end KF
set_option Elab.async false
set_option linter.all false
set_option maxRecDepth 100000
set_option maxHeartbeats 4000000
namespace KF
open PySem PySem.Spec PyProof.Rows L2 Evl
local macro_rules | `(tactic| walk_at "ev") => `(tactic| repeat' (first | exact ev_c | exact ev_var rfl | exact rv_I0 | refine' rv_I ?_ | refine' rv_eq ?_ | refine' rv_ne ?_ | refine' ev_op ?_ ?_ ?_ | exact ea_nil | refine' ea_cons ?_ ?_ | refine' et_test ?_ | refine' et_B ?_ | refine' et_not ?_ | refine' ev_notV ?_))

open PySem LamX KErr
/-! ### a beat asked by positions and by keywords -/
def g2 (us ws : List V) : List V := match us, ws with | [x], [f] => [x, f] | _, _ => []
def g2v (us ws : List Value) : List Value := match us, ws with | [x], [f] => [x, f] | _, _ => []
theorem g2_rel {vs zs : List V} {us ws : List Value} (r1 : Vals vs us) (r2 : Vals zs ws) : Vals (g2 vs zs) (g2v us ws) := by
  cases r1 with
  | nil => exact .nil
  | cons h1 t1 =>
    cases t1 with
    | cons _ _ => exact .nil
    | nil =>
      cases r2 with
      | nil => exact .nil
      | cons h2 t2 =>
        cases t2 with
        | nil => exact .cons h1 (.cons h2 .nil)
        | cons _ _ => exact .nil
section
variable {w : World} {K : PySem.W.Frag} {mg : Str → Option Value} {a : Ads}
theorem kb_call (T : Txt w K mg a) : KBinds K a.d_BeatD_callD ["self", "c"] ["c"] g2v g2 where
  to := fun s us ws X hl => by
    obtain ⟨oc, od, kV, doc, pm, an, cdv, ct, osl, e, lk, hcd⟩ := T.fn_BeatD_callD.ex
    rw [e]
    match us, ws, hl with
    | [x], [f], _ => exact .of_eq rfl
  rel := g2_rel
theorem kb_through (T : Txt w K mg a) : KBinds K a.d_Beat_through ["self", "c"] ["c"] g2v g2 where
  to := fun s us ws X hl => by
    obtain ⟨oc, od, kV, doc, pm, an, cdv, ct, osl, e, lk, hcd⟩ := T.fn_Beat_through.ex
    rw [e]
    match us, ws, hl with
    | [x], [f], _ => exact .of_eq rfl
  rel := g2_rel
theorem kb_nth (T : Txt w K mg a) : KBinds K a.d_Beat_nth ["self", "k"] ["k"] g2v g2 where
  to := fun s us ws X hl => by
    obtain ⟨oc, od, kV, doc, pm, an, cdv, ct, osl, e, lk, hcd⟩ := T.fn_Beat_nth.ex
    rw [e]
    match us, ws, hl with
    | [x], [f], _ => exact .of_eq rfl
  rel := g2_rel
end
theorem fs_thr (l p : Nat) (t : Addr) : (btFs l p t).lookup ("through" : Str) = none := by
  unfold btFs
  rw [lookup_putF, if_neg (by decide +kernel), lookup_putF, if_neg (by decide +kernel), lookup_putF, if_neg (by decide +kernel)]
  rfl
theorem fs_nth (l p : Nat) (t : Addr) : (btFs l p t).lookup ("nth" : Str) = none := by
  unfold btFs
  rw [lookup_putF, if_neg (by decide +kernel), lookup_putF, if_neg (by decide +kernel), lookup_putF, if_neg (by decide +kernel)]
  rfl
/-- what evaluates to one of some values -/
def EvN (P : V → Prop) (te : TE) (σ : L2.St) (H : Hp) : Prop := ∀ H1, Ex H H1 → ∀ Q : VK, (∀ v H2, Ex H1 H2 → P v → Q v H2) → te σ H1 Q
section
variable {X : Cx} {K : PySem.W.Frag} {a : Ads} {σ : L2.St} {H : Hp} {tf t1 te ta : TE} {E : XK} {b : Addr} {l m i c k : Nat} {as : List Bool} {P : V → Prop} {D : Ends} {tz : TS} {v x : V} {s : Str} {xs : List V} {d : PyData}
theorem ev_callB (hf : Ev tf σ H (.ref b)) (h1 : Ev t1 σ H (.int ((i + 1 : Nat) : Int))) (mb : BeatAt a H b l m as) (R : Right l m as) : Ev (StX.tCallO X a.f_Beat (fun vs H Q E => spCall a (vs ++ []) H Q E) E tf (tCons t1 tNil)) σ H (.bl (goesB l m as i)) := fun H1 e Q q =>
  hf H1 e _ fun H2 e2 => ⟨b, rfl, h1 H2 (e.trans e2) _ fun H3 e3 => by
    have m3 := mb.mono ((e.trans e2).trans e3)
    obtain ⟨dx, t, ho, _⟩ := id m3
    exact ⟨.inr ⟨dx, _, ho⟩, b, l, m, i, as, rfl, m3, R, fun H4 e4 => q H4 ((e2.trans e3).trans e4)⟩⟩
theorem ev_callBK (hf : Ev tf σ H (.ref b)) (h1 : Ev t1 σ H (.int ((i + 1 : Nat) : Int))) (mb : BeatAt a H b l m as) (R : Right l m as) : Ev (tCallOK a.f_Beat (spCall a) g2 E tf (tCons t1 tNil)) σ H (.bl (goesB l m as i)) := fun H1 e Q q =>
  hf H1 e _ fun H2 e2 => ⟨b, rfl, h1 H2 (e.trans e2) _ fun H3 e3 => by
    have m3 := mb.mono ((e.trans e2).trans e3)
    obtain ⟨dx, t, ho, _⟩ := id m3
    exact ⟨⟨dx, _, ho⟩, b, l, m, i, as, rfl, m3, R, fun H4 e4 => q H4 ((e2.trans e3).trans e4)⟩⟩
theorem ev_thr (hf : Ev tf σ H (.ref b)) (h1 : Ev t1 σ H (.int (c : Nat))) (mb : BeatAt a H b l m as) (R : Right l m as) : Ev (tMeth a.f_Beat "through" (spThr a) [] E tf (tCons t1 tNil)) σ H (.int (thr l m as c : Nat)) := fun H1 e Q q =>
  hf H1 e _ fun H2 e2 => by
    obtain ⟨dx, t, ho, _⟩ := id (mb.mono (e.trans e2))
    exact ⟨b, dx, _, rfl, ho, fs_thr l m t, h1 H2 (e.trans e2) _ fun H3 e3 => ⟨b, l, m, c, as, rfl, mb.mono ((e.trans e2).trans e3), R, fun H4 e4 => q H4 ((e2.trans e3).trans e4)⟩⟩
theorem ev_thrK (hf : Ev tf σ H (.ref b)) (h1 : Ev t1 σ H (.int (c : Nat))) (mb : BeatAt a H b l m as) (R : Right l m as) : Ev (tMethK a.f_Beat "through" (spThr a) g2 E tf (tCons t1 tNil)) σ H (.int (thr l m as c : Nat)) := fun H1 e Q q =>
  hf H1 e _ fun H2 e2 => by
    obtain ⟨dx, t, ho, _⟩ := id (mb.mono (e.trans e2))
    exact ⟨b, dx, _, rfl, ho, fs_thr l m t, h1 H2 (e.trans e2) _ fun H3 e3 => ⟨b, l, m, c, as, rfl, mb.mono ((e.trans e2).trans e3), R, fun H4 e4 => q H4 ((e2.trans e3).trans e4)⟩⟩
theorem evn_nth (hf : Ev tf σ H (.ref b)) (h1 : Ev t1 σ H (.int (k : Nat))) (mb : BeatAt a H b l m as) (R : Right l m as) (k0 : 0 < k) : EvN (NthIs l m as k) (tMeth a.f_Beat "nth" (spNth a) [] E tf (tCons t1 tNil)) σ H := fun H1 e Q q =>
  hf H1 e _ fun H2 e2 => by
    obtain ⟨dx, t, ho, _⟩ := id (mb.mono (e.trans e2))
    exact ⟨b, dx, _, rfl, ho, fs_nth l m t, h1 H2 (e.trans e2) _ fun H3 e3 => ⟨b, l, m, k, as, rfl, mb.mono ((e.trans e2).trans e3), R, k0, fun v H4 e4 hv => q v H4 ((e2.trans e3).trans e4) hv⟩⟩
theorem evn_nthK (hf : Ev tf σ H (.ref b)) (h1 : Ev t1 σ H (.int (k : Nat))) (mb : BeatAt a H b l m as) (R : Right l m as) (k0 : 0 < k) : EvN (NthIs l m as k) (tMethK a.f_Beat "nth" (spNth a) g2 E tf (tCons t1 tNil)) σ H := fun H1 e Q q =>
  hf H1 e _ fun H2 e2 => by
    obtain ⟨dx, t, ho, _⟩ := id (mb.mono (e.trans e2))
    exact ⟨b, dx, _, rfl, ho, fs_nth l m t, h1 H2 (e.trans e2) _ fun H3 e3 => ⟨b, l, m, k, as, rfl, mb.mono ((e.trans e2).trans e3), R, k0, fun v H4 e4 hv => q v H4 ((e2.trans e3).trans e4) hv⟩⟩
theorem EvN.one (h : EvN P te σ H) (u : ∀ w, P w → w = v) : Ev te σ H v := fun H1 e Q q => h H1 e _ fun w H2 e2 hw => by
  rw [u w hw]
  exact q H2 e2
theorem NthIs.at_ (R : Right l m as) (h : NthIs l m as k v) (hc : goesB l m as c = true) (ht : thr l m as (c + 1) = k) : v = .int ((c + 1 : Nat) : Int) := by
  rcases h with ⟨c', rfl, h1, h2, _⟩ | ⟨_, h1, h2⟩
  · rw [upTo_inj _ h1 hc (h2.trans ht.symm)]
  · have := thr_all R.pos R.len h1 (c + 1)
    omega
theorem NthIs.non_ (h : NthIs l m as k v) (h0 : each l as = 0) (ht : tot l m as < k) : v = .non := by
  rcases h with ⟨_, _, _, _, h1 | h1⟩ | ⟨rfl, _⟩
  · omega
  · omega
  · rfl
/-! repr -/
theorem ev_repr (h : Ev te σ H x) (r : ∀ H', Ex H H' → KD.RepV K H' x s) : Ev (tCB (KD.rReprV K) (tCons te tNil)) σ H (.str s) := fun H1 e Q q => h H1 e _ fun H2 e2 => ⟨x, s, rfl, r H2 (e.trans e2), q H2 e2⟩
theorem ev_reprL (h : EvL te σ H xs) (r : ∀ p H', H' p = some (.lst xs) → Ex H H' → KD.RepV K H' (.ref p) s) : Ev (tCB (KD.rReprV K) (tCons te tNil)) σ H (.str s) := fun H1 e Q q => h H1 e _ fun p H2 _ e2 h2 => ⟨.ref p, s, rfl, r p H2 h2 (e.trans e2), q H2 e2⟩
theorem rep_nat {n : Nat} (h : n < 1000) : ∀ H', Ex H H' → KD.RepV K H' (.int (n : Nat)) (toString ((n : Nat) : Int)) := fun _ _ => .int (log_small h)
theorem rep_bl {b : Bool} : ∀ H', Ex H H' → KD.RepV K H' (.bl b) (if b then "True" else "False") := fun _ _ => .bl b
theorem q_asgN {j : Nat} (h : EvN P te σ H) (k : ∀ v H1, Ex H H1 → P v → tz D (σ.set j (some v)) H1) : tSeq (tAsg te (gName j)) tz D σ H := h H (Ex.refl H) _ fun v H1 e hv => k v H1 e hv
theorem q_parLL {i j : Nat} (k : ∀ p q H1, H p = none → H q = none → p ≠ q → Ex H H1 → H1 p = some (.lst []) → H1 q = some (.lst []) → tz D ((σ.set i (some (.ref p))).set j (some (.ref q))) H1) : tSeq (tPar i j (tCons (tLst tNil) (tCons (tLst tNil) tNil))) tz D σ H :=
  ⟨by show 0 ≤ sizeLine; decide, fun p hp => ⟨by show 0 ≤ sizeLine; decide, fun q hq => by
    have hq0 := fresh_back (Ex.new hp (o := .lst [])) hq
    have ne : p ≠ q := fun z => by rw [← z, upd_same] at hq; cases hq
    exact ⟨.ref p, .ref q, rfl, k p q _ hp hq0 ne ((Ex.new hp).trans (Ex.new hq)) (by rw [upd_ne ne, upd_same]) upd_same⟩⟩⟩
theorem ev_niX (ha : Ev ta σ H x) (hb : EvX te σ H xs) (hx : flatV x = true) (hf : xs.all flatV = true) : Ev (tOp (rIn K true) ta te) σ H (.bl (!inV x xs)) := fun H1 e Q q =>
  ha H1 e _ fun H2 e2 => hb H2 (e.trans e2) _ fun p H3 e3 hp => ⟨p, xs, rfl, Or.inr (st_of hp), hx, hf, q H3 (e2.trans e3)⟩
end
theorem atI_last {xs : List V} {n : Nat} {v : V} (hl : xs.length = n + 1) (h : xs[n]? = some v) : atI xs (-1) = some v := by
  unfold atI ixN
  rw [hl, if_neg (by decide), if_pos (by omega)]
  show xs[((-1 : Int) + ((n + 1 : Nat) : Int)).toNat]? = some v
  rw [show ((-1 : Int) + ((n + 1 : Nat) : Int)).toNat = n by omega]
  exact h
end KF
set_option Elab.async false
set_option linter.all false
set_option maxRecDepth 100000
set_option maxHeartbeats 4000000
namespace KF
open PySem PySem.Spec PyProof.Rows L2 Evl
local macro_rules | `(tactic| walk_at "ev") => `(tactic| repeat' (first | exact ev_c | exact ev_var rfl | exact rv_I0 | refine' rv_I ?_ | refine' rv_eq ?_ | refine' rv_ne ?_ | refine' ev_op ?_ ?_ ?_ | exact ea_nil | refine' ea_cons ?_ ?_ | refine' et_test ?_ | refine' et_B ?_ | refine' et_not ?_ | refine' ev_notV ?_))

open PySem LamX KErr
def gsV (G : Nat → Bool) (j : Nat) : List V := (List.range j).map fun i => V.bl (G i)
def psV (G : Nat → Bool) (j : Nat) : List V := ((List.range j).filter G).map fun i => V.int ((i + 1 : Nat) : Int)
section
variable {G : Nat → Bool} {j i c : Nat}
theorem gsV_len : (gsV G j).length = j := by
  unfold gsV
  rw [List.length_map, List.length_range]
theorem gsV_succ : gsV G j ++ [.bl (G j)] = gsV G (j + 1) := by
  unfold gsV
  rw [List.range_succ, List.map_append]
  rfl
theorem gsV_at (h : i < j) : (gsV G j)[i]? = some (.bl (G i)) := by
  unfold gsV
  rw [List.getElem?_map, List.getElem?_range h]
  rfl
theorem psV_len : (psV G j).length = upTo G j := by
  unfold psV
  rw [List.length_map]
  rfl
theorem psV_yes (h : G j = true) : psV G j ++ [.int ((j + 1 : Nat) : Int)] = psV G (j + 1) := by
  unfold psV
  rw [List.range_succ, List.filter_append, List.filter_cons, if_pos h, List.map_append]
  rfl
theorem psV_no (h : G j = false) : psV G j = psV G (j + 1) := by
  unfold psV
  rw [List.range_succ, List.filter_append, List.filter_cons, if_neg (by rw [h]; decide), List.filter_nil, List.append_nil]
theorem psV_at (h : i < upTo G j) : ∃ c, (psV G j)[i]? = some (.int ((c + 1 : Nat) : Int)) ∧ c < j ∧ G c = true ∧ upTo G (c + 1) = i + 1 := by
  have lt : i < ((List.range j).filter G).length := h
  have hc : ((List.range j).filter G)[i]? = some ((List.range j).filter G)[i] := List.getElem?_eq_getElem lt
  generalize ((List.range j).filter G)[i] = c at hc
  obtain ⟨h1, h2, h3⟩ := filter_get G j i c hc
  refine ⟨c, ?_, h1, h2, ?_⟩
  · unfold psV
    rw [List.getElem?_map, hc]
    rfl
  · rw [upTo_succ, if_pos h2, h3]
end
theorem q_whenH {b : Bool} {σ : L2.St} {H : Hp} {D : Ends} {tz tu : TS} {t : TT} (M : Hp → Prop) (h : EvT t σ H b) (h1 : b = true → ∀ H1, Ex H H1 → (∀ H2, M H2 → tz D σ H2) → tu { D with nx := tz D } σ H1) (h2 : b = false → ∀ H1, Ex H H1 → M H1) (k : ∀ H2, M H2 → tz D σ H2) : tSeq (tIfS t tu tNext) tz D σ H :=
  q_when h (fun hb H1 e1 => h1 hb H1 e1 k) (fun hb H1 e1 => k H1 (h2 hb H1 e1))
def spNear (a : Ads) : Sp := fun vs H Q _ => ∃ (b t : Addr) (l m : Nat) (as : List Bool), vs = [.ref b, .int (l : Nat), .int (m : Nat), .ref t] ∧ BeatAt a H b l m as ∧ Right l m as ∧ l + m ≤ 60 ∧ H t = some (.tup (as.map V.bl)) ∧ ∀ H', Ex H H' → Q (.bl true) H'
section
variable {P : Program} {w : World} {K : PySem.W.Frag} {mg : Str → Option Value} {base : Heap} {a : Ads}
theorem ok_near (T : Txt w K mg a) : KD.FnG P w K mg base 8 a.f__law_near_right a.d__law_near_right ["_law_beat", "_law_lead", "_law_period", "_law_answers"] (spNear a) := by
  obtain ⟨oc, od, kV, doc, pm, an, cdv, ct, osl, eF, lk, hcd⟩ := T.fn__law_near_right.ex
  rw [eF] at lk
  rw [eF]
  have G_Beat_call : FnOk P w K mg base CX0 7 _ _ _ _ := (ok_Beat_call T).mono (by decide)
  have G_Beat_through : FnOk P w K mg base CX0 7 _ _ _ _ := (ok_Beat_through T).mono (by decide)
  have G_Beat_nth : FnOk P w K mg base CX0 7 _ _ _ _ := (ok_Beat_nth T).mono (by decide)
  refine KD.fnG_of lk hcd sc__law_near_right (fun vs H Q E h => ?_) fun A outer s H vs Q E gd hr h => ?_
  · obtain ⟨_, _, _, _, _, rfl, _⟩ := h
    rfl
  · obtain ⟨b, t, l, m, as, rfl, mb, R, h60, ht, k⟩ := h
    have hrc : Room 7 _ := hr
    have hu64 := hr.units
    refine ⟨_, (show PSs (cxOf CX0 P w K mg base n__law_near_right "_law_near_right" (defScope s__law_near_right) a.f__law_near_right cdv A outer s H E).nox (defBody s__law_near_right) _ from (pss_cons (ps_par (i := 4) (j := 5) rfl sc__law_near_right.nd rfl rfl (by decide) rfl rfl (pa_cons (pe_lst pa_nil) (pa_cons (pe_lst pa_nil) pa_nil)) (by rfl))
    (pss_cons (ps_for PassesOwn.never rfl (pi_range2 rfl T.b_range (pa_cons pe_int (pa_cons pe_int pa_nil))) (pg_name (i := 6) sc__law_near_right.nd rfl (Or.inl rfl)) (pss_cons (ps_expr (pe_bm PySem.F.plainAttrs_list PySem.F.slot_list_append PySem.F.type_list_append mt_append (pv 4) (pa_cons (pe_ifExp (pt_cmpR op_le (pv 6) (pe_op op_add (pv 1) (pv 2)) (nomark _)) (pe_ix ix_tup (pv 3) (pe_op op_sub (pv 6) pe_int) (fun _ _ => rfl)) (pe_ix ix_list (pv 4) (pe_op op_sub (pe_op op_sub (pv 6) pe_int) (pv 2)) (fun _ _ => rfl))) pa_nil)))
    (pss_cons (ps_if (pt_cmpR op_ne (pe_callB (KD.call_reprV gd hu64) (by rfl) T.b_repr PyProof.Rows.boot_repr (pa_cons (StX.pe_callO (pv 0) T.o_Beat (G_Beat_call.raw (bd_BeatD_callD T) .nil) hrc pass0 (pa_cons (pv 6) pa_nil)) pa_nil)) (pe_callB (KD.call_reprV gd hu64) (by rfl) T.b_repr PyProof.Rows.boot_repr (pa_cons (pe_ix ix_list (pv 4) (pe_un un_neg pe_int) (fun _ _ => rfl)) pa_nil)) (nomark _)) (pss_one (ps_ret pe_bl)) pss_nil)
    (pss_cons (ps_if (pt_val (pe_ix ix_list (pv 4) (pe_un un_neg pe_int) (fun _ _ => rfl))) (pss_one (ps_expr (pe_bm PySem.F.plainAttrs_list PySem.F.slot_list_append PySem.F.type_list_append mt_append (pv 5) (pa_cons (pv 6) pa_nil)))) pss_nil)
    (pss_one (ps_if (pt_cmpR op_ne (pe_callB (KD.call_reprV gd hu64) (by rfl) T.b_repr PyProof.Rows.boot_repr (pa_cons (pe_meth (pv 0) T.c_Beat T.m_Beat_through G_Beat_through hrc (bd_Beat_through T) .nil pass0 (pa_cons (pv 6) pa_nil)) pa_nil)) (pe_callB (KD.call_reprV gd hu64) (by rfl) T.b_repr PyProof.Rows.boot_repr (pa_cons (pe_callB call_len_seq (by rfl) T.b_len PySem.boot_len (pa_cons (pv 5) pa_nil)) pa_nil)) (nomark _)) (pss_one (ps_ret pe_bl)) pss_nil))))))
    (pss_cons (ps_for PassesOwn.never rfl (pi_range2 rfl T.b_range (pa_cons pe_int (pa_cons (pe_op op_add (pe_callB call_len_seq (by rfl) T.b_len PySem.boot_len (pa_cons (pv 5) pa_nil)) pe_int) pa_nil))) (pg_name (i := 7) sc__law_near_right.nd rfl (Or.inl rfl)) (pss_one (ps_if (pt_cmpR op_ne (pe_callB (KD.call_reprV gd hu64) (by rfl) T.b_repr PyProof.Rows.boot_repr (pa_cons (pe_meth (pv 0) T.c_Beat T.m_Beat_nth G_Beat_nth hrc (bd_Beat_nth T) .nil pass0 (pa_cons (pv 7) pa_nil)) pa_nil)) (pe_callB (KD.call_reprV gd hu64) (by rfl) T.b_repr PyProof.Rows.boot_repr (pa_cons (pe_ix ix_list (pv 5) (pe_op op_sub (pv 7) pe_int) (fun _ _ => rfl)) pa_nil)) (nomark _)) (pss_one (ps_ret pe_bl)) pss_nil)))
    (pss_cons (ps_if (PW.pt (pw_or (pt_cmpR op_ne (pe_callB (KD.call_reprV gd hu64) (by rfl) T.b_repr PyProof.Rows.boot_repr (pa_cons (pe_lst (pa_cons (pe_callOK (pv 0) T.o_Beat G_Beat_call hrc (kb_call T) pass0 (pk_cons pe_int pk_nil)) (pa_cons (pe_methK (pv 0) T.c_Beat T.m_Beat_through G_Beat_through hrc (kb_through T) pass0 (pk_cons pe_int pk_nil)) pa_nil))) pa_nil)) (pe_callB (KD.call_reprV gd hu64) (by rfl) T.b_repr PyProof.Rows.boot_repr (pa_cons (pe_lst (pa_cons (pe_ix ix_list (pv 4) pe_int (fun _ _ => rfl)) (pa_cons (pe_callB call_len_seq (by rfl) T.b_len PySem.boot_len (pa_cons (pv 5) pa_nil)) pa_nil))) pa_nil)) (nomark _)) (pw_or1 (pt_cmpR op_ne (pe_meth (pv 0) T.c_Beat T.m_Beat_through G_Beat_through hrc (bd_Beat_through T) .nil pass0 (pa_cons pe_int pa_nil)) pe_int (nomark _))))) (pss_one (ps_ret pe_bl)) pss_nil)
    (pss_one (ps_ret (pe_ifExp (pt_cmpR op_notIn_seq pe_bl (pe_slice sl_tupA (pv 3) (po_some (pv 1)) po_none) (by rfl)) (pe_cmpR op_isN (pe_methK (pv 0) T.c_Beat T.m_Beat_nth G_Beat_nth hrc (kb_nth T) pass0 (pk_cons (pe_op op_add (pe_callB call_len_seq (by rfl) T.b_len PySem.boot_len (pa_cons (pv 5) pa_nil)) pe_int) pk_nil)) pe_non (nomark _)) (pe_cmpR op_eq (pe_methK (pv 0) T.c_Beat T.m_Beat_nth G_Beat_nth hrc (kb_nth T) pass0 (pk_cons pe_int pk_nil)) (pe_ix ix_list (pv 5) pe_int (fun _ _ => rfl)) (nomark _)))))))))), ?_⟩
    have hm0 := R.pos
    have hlen := R.len
    refine q_parLL fun gs ps H1 ng np gp e1 hg1 hp1 => ?_
    refine q_forR2 (lo := 1) (n := 61) (ea_cons ev_c (ea_cons ev_c ea_nil)) (by decide) (fun j σ' H' => ∃ o6, σ' = [some (.ref b), some (.int (l : Nat)), some (.int (m : Nat)), some (.ref t), some (.ref gs), some (.ref ps), o6, none] ∧ Ex H H' ∧ H' gs = some (.lst (gsV (goesB l m as) j)) ∧ H' ps = some (.lst (psV (goesB l m as) j))) (fun H2 e2 => ⟨_, rfl, e1.trans e2, e2 _ _ hg1, e2 _ _ hp1⟩) (fun j σ' H2 hj q => ?_) (fun σ' H2 q => ?_)
    · obtain ⟨o6, rfl, e2, hg2, hp2⟩ := q
      have hj60 : j < 60 := by omega
      have coming : ∀ {σ : L2.St} {H3 : Hp}, σ[6]? = some (some (.int (1 + (j : Int)))) → Ev (tVar 6) σ H3 (.int ((j + 1 : Nat) : Int)) := fun h => ev_is (ev_var h) (congrArg V.int (by omega))
      refine q_app (K := K) (l := gs) (xs := gsV (goesB l m as) j) (v := .bl (goesB l m as j)) hg2 (ev_var rfl) (ev_if (b := decide ((j : Int) + 1 ≤ (l : Int) + (m : Int))) (et_test (ev_is (ev_op (coming rfl) (ev_op (ev_var rfl) (ev_var rfl) rv_I0) rv_I0) (congrArg V.bl (decide_eq_decide.mpr (by omega))))) (fun hb => ?_) (fun hb => ?_)) (by rw [gsV_len]; omega) fun H3 e3 => ?_
      · have hb := of_decide_eq_true hb
        have lt : j < as.length := by omega
        refine ev_op (ev_var rfl) (ev_is (ev_op (coming rfl) ev_c rv_I0) (congrArg V.int (show ((j + 1 : Nat) : Int) - 1 = ((j : Nat) : Int) by omega))) (rv_ixT (K := K) (st_of (e2 _ _ ht)) (atI_nat ?_))
        rw [List.getElem?_map, List.getElem?_eq_getElem lt, goes_low (by omega), List.getD_eq_getElem?_getD, List.getElem?_eq_getElem lt]
        rfl
      · have hb := of_decide_eq_false hb
        refine ev_op (ev_var rfl) (ev_is (ev_op (ev_op (coming rfl) ev_c rv_I0) (ev_var rfl) rv_I0) (congrArg V.int (show ((j + 1 : Nat) : Int) - 1 - (m : Int) = ((j - m : Nat) : Int) by omega))) (rv_ixL (K := K) (sq_of hg2) (atI_nat ?_))
        rw [gsV_at (by omega)]
        have p := goes_per (P := m) (as := as) (show l ≤ j - m by omega)
        rw [show j - m + m = j by omega] at p
        rw [p]
      have e23 : Ex H (upd H3 gs (.lst (gsV (goesB l m as) j ++ [.bl (goesB l m as j)]))) := Ex.mut (e2.trans e3) ng
      have hg3 : (upd H3 gs (.lst (gsV (goesB l m as) j ++ [.bl (goesB l m as j)]))) gs = some (.lst (gsV (goesB l m as) (j + 1))) := by rw [upd_same, gsV_succ]
      have hp3 : (upd H3 gs (.lst (gsV (goesB l m as) j ++ [.bl (goesB l m as j)]))) ps = some (.lst (psV (goesB l m as) j)) := by rw [upd_ne (Ne.symm gp)]; exact e3 _ _ hp2
      generalize upd H3 gs (.lst (gsV (goesB l m as) j ++ [.bl (goesB l m as j)])) = H4 at e23 hg3 hp3
      have last : ∀ {σ : L2.St} {H5 : Hp}, Ex H4 H5 → σ[4]? = some (some (.ref gs)) → Ev (tOp (rIxL K) (tVar 4) (tUn (rU fun i => .int (-i)) (tC (.int 1)))) σ H5 (.bl (goesB l m as j)) := fun e5 h => ev_op (ev_var h) (ev_un ev_c ru_neg) (rv_ixL (K := K) (sq_of (e5 _ _ hg3)) (atI_last gsV_len (gsV_at (Nat.lt_succ_self j))))
      refine q_when (b := false) (et_is (et_test (ev_op (ev_repr (K := K) (ev_callB (ev_var rfl) (coming rfl) (mb.mono e23) R) rep_bl) (ev_repr (K := K) (last (Ex.refl _) rfl) rep_bl) (rv_ne rfl))) (by simp)) (fun z => nomatch z) fun _ H5 e5 => ?_
      refine q_whenH (b := goesB l m as j) (fun H6 => Ex H H6 ∧ H6 gs = some (.lst (gsV (goesB l m as) (j + 1))) ∧ H6 ps = some (.lst (psV (goesB l m as) (j + 1)))) (et_B (last e5 rfl)) (fun hb H6 e6 rest => ?_) (fun hb H6 e6 => ⟨e23.trans (e5.trans e6), (e5.trans e6) _ _ hg3, by rw [← psV_no hb]; exact (e5.trans e6) _ _ hp3⟩) fun H6 h6 => ?_
      · refine s_app (K := K) (l := ps) (xs := psV (goesB l m as) j) (v := .int ((j + 1 : Nat) : Int)) ((e5.trans e6) _ _ hp3) (ev_var rfl) (coming rfl) (Nat.lt_of_le_of_lt (Nat.le_of_eq psV_len) (Nat.lt_of_le_of_lt (upTo_le _ _) (by omega))) fun H7 e7 => rest _ ⟨Ex.mut ((e23.trans (e5.trans e6)).trans e7) np, by rw [upd_ne gp]; exact e7 _ _ ((e5.trans e6) _ _ hg3), by rw [upd_same, psV_yes hb]⟩
      · obtain ⟨e6, hg6, hp6⟩ := h6
        refine s_when (b := false) (et_is (et_test (ev_op (ev_repr (K := K) (ev_thr (ev_var rfl) (coming rfl) (mb.mono e6) R) (rep_nat (Nat.lt_of_le_of_lt (upTo_le _ _) (by omega)))) (ev_repr (K := K) (ev_is (ev_lenS (K := K) (ev_var rfl) (sq_of hp6)) (congrArg V.int (congrArg _ psV_len))) (rep_nat (Nat.lt_of_le_of_lt (upTo_le _ _) (by omega)))) (rv_ne rfl))) ?_) (fun z => nomatch z) fun _ H7 e7 => ⟨_, rfl, e6.trans e7, e7 _ _ hg6, e7 _ _ hp6⟩
        show (!decide (V.str _ = V.str _)) = false
        rw [Bool.not_eq_false']
        exact decide_eq_true rfl
    · obtain ⟨o6, rfl, e2, hg2, hp2⟩ := q
      have hg2 : H2 gs = some (.lst (gsV (goesB l m as) 60)) := hg2
      have hp2 : H2 ps = some (.lst (psV (goesB l m as) 60)) := hp2
      have w60 : thr l m as 60 ≤ 60 := upTo_le _ _
      refine q_forR2 (lo := 1) (n := ((thr l m as 60 + 1 : Nat) : Int)) (ea_cons ev_c (ea_cons (ev_is (ev_op (ev_is (ev_lenS (K := K) (ev_var rfl) (sq_of hp2)) (congrArg V.int (congrArg _ psV_len))) ev_c rv_I0) (congrArg V.int (by show ((upTo (goesB l m as) 60 : Nat) : Int) + 1 = ((upTo (goesB l m as) 60 + 1 : Nat) : Int); omega))) ea_nil)) ⟨by decide, by decide, by omega, by omega⟩ (fun j σ' H' => ∃ o7, σ' = [some (.ref b), some (.int (l : Nat)), some (.int (m : Nat)), some (.ref t), some (.ref gs), some (.ref ps), o6, o7] ∧ Ex H2 H') (fun H3 e3 => ⟨_, rfl, e3⟩) (fun j σ' H3 hj q => ?_) (fun σ' H3 q => ?_)
      · obtain ⟨o7, rfl, e3⟩ := q
        have hj : j < upTo (goesB l m as) 60 := by
          have : thr l m as 60 = upTo (goesB l m as) 60 := rfl
          omega
        obtain ⟨c, hc, c60, gc, tc⟩ := psV_at hj
        have spot : ∀ {σ : L2.St} {H3 : Hp}, σ[7]? = some (some (.int (1 + (j : Int)))) → Ev (tVar 7) σ H3 (.int ((j + 1 : Nat) : Int)) := fun h => ev_is (ev_var h) (congrArg V.int (by omega))
        refine s_when (b := false) (et_is (et_test (ev_op (ev_repr (K := K) ((evn_nth (ev_var rfl) (spot rfl) (mb.mono (e2.trans e3)) R (Nat.succ_pos j)).one fun w hw => hw.at_ R gc tc) (rep_nat (by omega))) (ev_repr (K := K) (ev_op (ev_var rfl) (ev_is (ev_op (spot rfl) ev_c rv_I0) (congrArg V.int (show ((j + 1 : Nat) : Int) - 1 = ((j : Nat) : Int) by omega))) (rv_ixL (K := K) (sq_of (e3 _ _ hp2)) (atI_nat hc))) (rep_nat (by omega))) (rv_ne rfl))) ?_) (fun z => nomatch z) fun _ H4 e4 => ⟨_, rfl, e3.trans e4⟩
        show (!decide (V.str _ = V.str _)) = false
        rw [Bool.not_eq_false']
        exact decide_eq_true rfl
      · obtain ⟨o7, rfl, e3⟩ := q
        have e03 := e2.trans e3
        have hg3 := e3 _ _ hg2
        have hp3 := e3 _ _ hp2
        obtain ⟨f1, f2, f3, f4⟩ := pair_fits (goesB l m as 59) (thr l m as 60) (by omega)
        have pr : ∀ p H', H' p = some (.lst [.bl (goesB l m as 59), .int (thr l m as 60 : Nat)]) → KD.RepV K H' (.ref p) (pairD (goesB l m as 59) (thr l m as 60)).shown := fun p H' h => .obj (.lst (sq_of h) (.cons (.bl _) (.cons (.int _) .nil))) f1 f2 f3 f4
        refine q_when (b := false) (et_is (et_or (a := false) (b := false) (et_is (et_test (ev_op (ev_reprL (K := K) (el_lst (vs := [.bl (goesB l m as 59), .int (thr l m as 60 : Nat)]) (ea_cons (ev_callBK (i := 59) (ev_var rfl) ev_c (mb.mono e03) R) (ea_cons (ev_thrK (c := 60) (ev_var rfl) ev_c (mb.mono e03) R) ea_nil)) (by show 2 ≤ 100000; decide)) fun p H' h _ => pr p H' h) (ev_reprL (K := K) (el_lst (vs := [.bl (goesB l m as 59), .int (thr l m as 60 : Nat)]) (ea_cons (ev_op (ev_var rfl) ev_c (rv_ixL (K := K) (sq_of hg3) (show atI _ ((59 : Nat) : Int) = _ from atI_nat (gsV_at (by decide))))) (ea_cons (ev_is (ev_lenS (K := K) (ev_var rfl) (sq_of hp3)) (congrArg V.int (congrArg _ psV_len))) ea_nil)) (by show 2 ≤ 100000; decide)) fun p H' h _ => pr p H' h) (rv_ne rfl))) ?_) fun _ => et_is (et_test (ev_op (ev_thr (c := 0) (ev_var rfl) ev_c (mb.mono e03) R) ev_c (rv_ne rfl))) rfl) rfl) (fun z => nomatch z) fun _ H4 e4 => ?_
        · show (!decide (V.str _ = V.str _)) = false
          rw [Bool.not_eq_false']
          exact decide_eq_true rfl
        have e04 := e03.trans e4
        have tl : tot l m as ≤ thr l m as 60 := upTo_mono _ h60
        have te := tot_is (L := l) (P := m) hlen
        refine s_ret (v := .bl true) (ev_if (b := !decide (0 < each l as)) (et_is (et_test (ev_niX (K := K) (ev_c (v := .bl true)) (ew_is (ew_sl (K := K) (ew_of (p := t) (xs := as.map V.bl) (ev_var rfl) (e04 _ _ ht)) (eo_some (i := ((l : Nat) : Int)) (ev_var rfl)) eo_none) (cut_from as l)) rfl (vals_flat _))) (by rw [true_in] <;> rfl)) (fun hb => ?_) (fun hb => ?_)) fun H5 e5 => k H5 (e04.trans e5)
        · have h0 : each l as = 0 := by
            have : decide (0 < each l as) = false := by
              cases hd : decide (0 < each l as) with
              | true => rw [hd] at hb; cases hb
              | false => rfl
            have := of_decide_eq_false this
            omega
          have ub := thr_all hm0 hlen h0 60
          exact ev_is (ev_op ((evn_nthK (k := thr l m as 60 + 1) (ev_var rfl) (ev_is (ev_op (ev_is (ev_lenS (K := K) (ev_var rfl) (sq_of (e4 _ _ hp3))) (congrArg V.int (congrArg _ psV_len))) ev_c rv_I0) (congrArg V.int (by show ((upTo (goesB l m as) 60 : Nat) : Int) + 1 = ((upTo (goesB l m as) 60 + 1 : Nat) : Int); omega))) (mb.mono e04) R (Nat.succ_pos _)).one fun w hw => hw.non_ h0 (by omega)) ev_c rv_isN) rfl
        · have h0 : 0 < each l as := of_decide_eq_true (by
              cases hd : decide (0 < each l as) with
              | true => rfl
              | false => rw [hd] at hb; cases hb)
          obtain ⟨c, hc, c60, gc, tc⟩ := psV_at (G := goesB l m as) (j := 60) (i := 0) (by
            have : thr l m as 60 = upTo (goesB l m as) 60 := rfl
            omega)
          exact ev_is (ev_op ((evn_nthK (k := 1) (ev_var rfl) ev_c (mb.mono e04) R (by decide)).one fun w hw => hw.at_ R gc tc) (ev_op (ev_var rfl) ev_c (rv_ixL (K := K) (sq_of (e4 _ _ hp3)) (show atI _ ((0 : Nat) : Int) = _ from atI_nat hc))) (rv_eq rfl)) (congrArg V.bl (decide_eq_true rfl))
end
end KF
set_option Elab.async false
set_option linter.all false
set_option maxRecDepth 100000
set_option maxHeartbeats 4000000
namespace KF
open PySem PySem.Spec PyProof.Rows L2 Evl
local macro_rules | `(tactic| walk_at "ev") => `(tactic| repeat' (first | exact ev_c | exact ev_var rfl | exact rv_I0 | refine' rv_I ?_ | refine' rv_eq ?_ | refine' rv_ne ?_ | refine' ev_op ?_ ?_ ?_ | exact ea_nil | refine' ea_cons ?_ ?_ | refine' et_test ?_ | refine' et_B ?_ | refine' et_not ?_ | refine' ev_notV ?_))

open PySem LamX KErr
theorem BeatAt.exB {a : Ads} {H H' : Hp} {b p : Addr} {l m n : Nat} {as : List Bool} (h : BeatAt a H b l m as) (hp : PenAt H p n) (e : ExB p H H') : BeatAt a H' b l m as := by
  obtain ⟨dx, t, h1, h2⟩ := h
  obtain ⟨_, _, _, _, h3, _⟩ := hp
  exact ⟨dx, t, e _ _ h1 (ne_of h1 h3 fun z => nomatch z), e _ _ h2 (ne_of h2 h3 fun z => nomatch z)⟩
section
variable {K : PySem.W.Frag} {σ : L2.St} {H : Hp} {t1 t2 ta tb te : TE} {D : Ends} {tz : TS} {i j n : Nat} {p : Addr} {E : XK} {Q : VK} {x : V} {r : R2}
theorem draw_raw (m : Nat) (hi : σ[i]? = some (some (.ref p))) (hm : Ev te σ H (.int (m : Nat))) (pen : PenAt H p n) (hn : n < 100000) (h0 : 0 < m) (hl : LimM m) (k : ∀ d H', d < m → ExP p H H' → PenAt H' p (n + 1) → Q (.int (d : Nat)) H') : tCall spDraw [] E (tCons (tVar i) (tCons te tNil)) σ H Q :=
  ⟨.ref p, hi, hm H (Ex.refl H) _ fun H1 e1 => ⟨p, n, m, rfl, pen.keep e1, hn, h0, hl, fun d H' hd e b => k d H' hd ((ExP.of e1).trans e) b⟩⟩
theorem q_parD (h : t1 σ H fun v H1 => t2 σ H1 fun w H2 => ∃ v' w', [v, w] = [v', w'] ∧ tz D ((σ.set i (some v')).set j (some w')) H2) : tSeq (tPar i j (tCons t1 (tCons t2 tNil))) tz D σ H := h
theorem q_opD (h1 : Ev ta σ H x) (h2 : ∀ H1, Ex H H1 → tb σ H1 fun y H2 => r x y H2 fun v H3 => tz D (σ.set i (some v)) H3) : tSeq (tAsg (tOp r ta tb) (gName i)) tz D σ H := h1 H (Ex.refl H) _ fun H1 e1 => h2 H1 e1
end
theorem given_cnt (bs : List Bool) (v : Nat → V) : (given (bs.map V.bl).length (fun i => bs.getD i false) v).length = cnt bs := by
  unfold given
  rw [List.length_map, List.length_map]
  have := upTo_take bs bs.length (Nat.le_refl _)
  rw [List.take_length] at this
  exact this
theorem lim_great : LimM (10 ^ 60) := by
  unfold LimM
  rw [Int.natAbs_natCast]
  decide
def spFar (a : Ads) : Sp := fun vs H Q _ => ∃ (p b t : Addr) (n l m : Nat) (as : List Bool), vs = [.ref p, .ref b, .int (l : Nat), .int (m : Nat), .ref t] ∧ PenAt H p n ∧ n + 3 ≤ 100000 ∧ BeatAt a H b l m as ∧ Right l m as ∧ H t = some (.tup (as.map V.bl)) ∧ ∀ H', ExP p H H' → PenAt H' p (n + 3) → Q (.bl true) H'
section
variable {P : Program} {w : World} {K : PySem.W.Frag} {mg : Str → Option Value} {base : Heap} {a : Ads}
theorem ok_far (T : Txt w K mg a) : FnOk P w K mg base CX0 8 a.f__law_far_right a.d__law_far_right ["_law_pen_here", "_law_beat", "_law_lead", "_law_period", "_law_answers"] (spFar a) := by
  have G_Beat_call : FnOk P w K mg base CX0 7 _ _ _ _ := (ok_Beat_call T).mono (by decide)
  have G_Beat_through : FnOk P w K mg base CX0 7 _ _ _ _ := (ok_Beat_through T).mono (by decide)
  have G_Beat_nth : FnOk P w K mg base CX0 7 _ _ _ _ := (ok_Beat_nth T).mono (by decide)
  have G__law_draw : FnOk P w K mg base CX0 7 _ _ _ _ := (ok_draw T).mono (by decide)
  refine T.fn__law_far_right.ok sc__law_far_right (fun vs H Q E h => ?_) (fun cdv A outer s H vs Q E hr h => ?_)
  · obtain ⟨_, _, _, _, _, _, _, rfl, _⟩ := h
    rfl
  · obtain ⟨p, b, t, n, l, m, as, rfl, pen, hn, mb, R, ht, k⟩ := h
    have hrc : Room 7 _ := hr
    refine ⟨_, (pss_cons (ps_par (i := 5) (j := 6) rfl sc__law_far_right.nd rfl rfl (by decide) rfl rfl (pa_cons (pe_call G__law_draw hrc rfl T.mg__law_draw T.fn__law_draw.kp (bd__law_draw T) .nil pass0 (pa_cons (pv 0) (pa_cons (pe_op op_pow pe_int pe_int) pa_nil))) (pa_cons (pe_callB call_len_seq (by rfl) T.b_len PySem.boot_len (pa_cons (pe_lc (own := [("_law_one", 11)]) (g := gName 11) rfl sc__law_far_right.nd (pi_tup (pe_slice sl_tupA (pv 4) (po_some (pv 2)) po_none)) (blkOk_by (own := [("_law_one", 11)]) (N := n__law_far_right) (sc := defScope s__law_far_right) (by decide +kernel)) (fun _ _ _ _ _ => (pg_name (i := 11) sc__law_far_right.nd rfl (Or.inl rfl))) (fun _ _ _ _ _ => (pts_one (pt_val (pv 11)))) (fun _ _ _ _ _ => (pv 11))) pa_nil)) pa_nil)) (by rfl))
    (pss_cons (ps_set (i := 7) sc__law_far_right.nd rfl (Or.inl rfl) (pe_op op_add (pe_op op_add (pv 2) pe_int) (pe_call G__law_draw hrc rfl T.mg__law_draw T.fn__law_draw.kp (bd__law_draw T) .nil pass0 (pa_cons (pv 0) (pa_cons pe_int pa_nil)))))
    (pss_cons (ps_set (i := 8) sc__law_far_right.nd rfl (Or.inl rfl) (pe_op op_add (pv 7) (pe_op op_mul (pv 5) (pv 3))))
    (pss_cons (ps_if (PW.pt (pw_or (pt_cmpR op_ne (StX.pe_callO (pv 1) T.o_Beat (G_Beat_call.raw (bd_BeatD_callD T) .nil) hrc pass0 (pa_cons (pv 8) pa_nil)) (StX.pe_callO (pv 1) T.o_Beat (G_Beat_call.raw (bd_BeatD_callD T) .nil) hrc pass0 (pa_cons (pv 7) pa_nil)) (nomark _)) (pw_or1 (pt_cmpR op_ne (pe_meth (pv 1) T.c_Beat T.m_Beat_through G_Beat_through hrc (bd_Beat_through T) .nil pass0 (pa_cons (pv 8) pa_nil)) (pe_op op_add (pe_meth (pv 1) T.c_Beat T.m_Beat_through G_Beat_through hrc (bd_Beat_through T) .nil pass0 (pa_cons (pv 7) pa_nil)) (pe_op op_mul (pv 5) (pv 6))) (nomark _))))) (pss_one (ps_ret pe_bl)) pss_nil)
    (pss_cons (ps_set (i := 9) sc__law_far_right.nd rfl (Or.inl rfl) (pe_op op_add pe_int (pe_call G__law_draw hrc rfl T.mg__law_draw T.fn__law_draw.kp (bd__law_draw T) .nil pass0 (pa_cons (pv 0) (pa_cons (pe_op op_pow pe_int pe_int) pa_nil)))))
    (pss_cons (ps_set (i := 10) sc__law_far_right.nd rfl (Or.inl rfl) (pe_meth (pv 1) T.c_Beat T.m_Beat_nth G_Beat_nth hrc (bd_Beat_nth T) .nil pass0 (pa_cons (pv 9) pa_nil)))
    (pss_cons (ps_if (pt_cmpR op_eq (pv 6) pe_int (nomark _)) (pss_one (ps_ret (pe_cmpR op_eq (pe_cmpR op_isN (pv 10) pe_non (nomark _)) (pe_cmpR op_gt (pv 9) (pe_callB call_len_seq (by rfl) T.b_len PySem.boot_len (pa_cons (pe_lc (own := [("_law_one", 11)]) (g := gName 11) rfl sc__law_far_right.nd (pi_tup (pv 4)) (blkOk_by (own := [("_law_one", 11)]) (N := n__law_far_right) (sc := defScope s__law_far_right) (by decide +kernel)) (fun _ _ _ _ _ => (pg_name (i := 11) sc__law_far_right.nd rfl (Or.inl rfl))) (fun _ _ _ _ _ => (pts_one (pt_val (pv 11)))) (fun _ _ _ _ _ => (pv 11))) pa_nil)) (nomark _)) (nomark _)))) pss_nil)
    (pss_cons (ps_if (PW.pt (pw_or (pt_cmpR op_isN (pv 10) pe_non (nomark _)) (pw_or (pt_not (pt_val (StX.pe_callO (pv 1) T.o_Beat (G_Beat_call.raw (bd_BeatD_callD T) .nil) hrc pass0 (pa_cons (pv 10) pa_nil)))) (pw_or1 (pt_cmpR op_ne (pe_meth (pv 1) T.c_Beat T.m_Beat_through G_Beat_through hrc (bd_Beat_through T) .nil pass0 (pa_cons (pv 10) pa_nil)) (pv 9) (nomark _)))))) (pss_one (ps_ret pe_bl)) pss_nil)
    (pss_one (ps_ret (pe_cmpR op_eq (pe_meth (pv 1) T.c_Beat T.m_Beat_through G_Beat_through hrc (bd_Beat_through T) .nil pass0 (pa_cons (pe_op op_sub (pv 10) pe_int) pa_nil)) (pe_op op_sub (pv 9) pe_int) (nomark _)))))))))))), ?_⟩
    have hm0 := R.pos
    have hlen := R.len
    have hl9 := R.l9
    have hm9 := R.p9
    have tp := pen.ne_tup ht
    have eL : each l as ≤ l + m := by
      unfold each cnt
      have := List.length_filter_le id (as.drop l)
      rw [List.length_drop] at this
      omega
    have great : ∀ {σ : L2.St} {H1 : Hp}, Ev (tOp (rI CPow fun i j => .int (i ^ j.toNat)) (tC (.int 10)) (tC (.int 60))) σ H1 (.int ((10 ^ 60 : Nat) : Int)) := ev_is (ev_op ev_c ev_c (rv_I ⟨by decide, by decide, by decide⟩)) (congrArg V.int (by decide))
    refine q_parD (draw_raw (p := p) (10 ^ 60) rfl great pen (by omega) (by decide) lim_great fun tn H1 _ e1 pen1 => ?_)
    have ht1 := e1.ex _ _ ht tp
    have mb1 := mb.exB pen e1.ex
    refine (ev_is (ev_lenN (K := K) (el_lcW (K := K) (xs := (as.drop l).map V.bl) (j := 11) (fun i => (as.drop l).getD i false) (fun i => .bl ((as.drop l).getD i false)) (ew_is (ew_sl (K := K) (ew_of (p := t) (xs := as.map V.bl) (ev_var rfl) ht1) (eo_some (i := ((l : Nat) : Int)) (ev_var rfl)) eo_none) (cut_from as l)) (by rw [List.length_map, List.length_drop]; omega) (fun _ => rfl) (fun i x H4 e4 hx => ?_) (fun i x H4 e4 hx _ => ?_))) (congrArg V.int (congrArg _ (given_cnt _ _))) : Ev _ _ H1 (.int (each l as : Nat))) H1 (Ex.refl _) _ fun H2 e2 => ⟨_, _, rfl, ?_⟩
    · rw [List.getElem?_map] at hx
      obtain ⟨z, hz, rfl⟩ := Option.map_eq_some_iff.mp hx
      exact et_B (ev_is (ev_var rfl) (congrArg V.bl (by rw [List.getD_eq_getElem?_getD, hz] <;> rfl)))
    · rw [List.getElem?_map] at hx
      obtain ⟨z, hz, rfl⟩ := Option.map_eq_some_iff.mp hx
      exact ev_is (ev_var rfl) (congrArg V.bl (by rw [List.getD_eq_getElem?_getD, hz] <;> rfl))
    · have pen2 := pen1.keep e2
      have mb2 := mb1.mono e2
      refine q_opD (x := .int ((l + 1 : Nat) : Int)) (ev_is (ev_op (ev_var rfl) ev_c rv_I0) (congrArg V.int (by omega))) fun H3 e3 => ?_
      refine draw_raw (p := p) 20 rfl ev_c (pen2.keep e3) (by omega) (by decide) (lim_small (by decide)) fun d H4 hd e4 pen4 => ⟨_, _, rfl, rfl, ?_⟩
      have mb4 := (mb2.mono e3).exB (pen2.keep e3) e4.ex
      refine q_asg (v := .int ((l + d + tn * m + 1 : Nat) : Int)) (ev_is (ev_op (ev_var rfl) (ev_op (ev_var rfl) (ev_var rfl) (rv_I (.inr ⟨by omega, by omega⟩))) rv_I0) (congrArg V.int (by rw [show l + d + tn * m + 1 = (l + 1) + d + tn * m by omega]; simp only [Int.natCast_add, Int.natCast_mul]))) fun H5 e5 => ?_
      have mb5 := mb4.mono e5
      have cm : ∀ {σ : L2.St} {H6 : Hp}, σ[7]? = some (some (.int (((l + 1 : Nat) : Int) + (d : Int)))) → Ev (tVar 7) σ H6 (.int ((l + d + 1 : Nat) : Int)) := fun h => ev_is (ev_var h) (congrArg V.int (by omega))
      have gm := goes_many (P := m) (as := as) (show l ≤ l + d by omega) tn
      have tm := thr_many (P := m) hlen (show l ≤ l + d + 1 by omega) tn
      rw [show l + d + 1 + tn * m = l + d + tn * m + 1 by omega] at tm
      refine q_when (b := false) (et_is (et_or (a := false) (b := false) (et_is (et_test (ev_op (ev_callB (i := l + d + tn * m) (ev_var rfl) (ev_var rfl) mb5 R) (ev_callB (i := l + d) (ev_var rfl) (cm rfl) mb5 R) (rv_ne rfl))) (by rw [gm]; simp)) fun _ => et_is (et_test (ev_op (ev_thr (c := l + d + tn * m + 1) (ev_var rfl) (ev_var rfl) mb5 R) (ev_op (ev_thr (c := l + d + 1) (ev_var rfl) (cm rfl) mb5 R) (ev_op (ev_var rfl) (ev_var rfl) (rv_I (.inr ⟨by omega, by omega⟩))) rv_I0) (rv_ne rfl))) ?_) rfl) (fun z => nomatch z) fun _ H6 e6 => ?_
      · rw [tm, Bool.not_eq_false']
        exact decide_eq_true (congrArg V.int (by simp only [Int.natCast_add, Int.natCast_mul]))
      have mb6 := mb5.mono e6
      have pen6 := pen4.keep (e5.trans e6)
      refine q_opD (x := .int 1) ev_c fun H7 e7 => ?_
      refine draw_raw (p := p) (10 ^ 60) rfl great (pen6.keep e7) (by omega) (by decide) lim_great fun kn H8 _ e8 pen8 => ⟨_, _, rfl, rfl, ?_⟩
      have mb8 := (mb6.mono e7).exB (pen6.keep e7) e8.ex
      have num : ∀ {σ : L2.St} {H9 : Hp}, σ[9]? = some (some (.int ((1 : Int) + (kn : Int)))) → Ev (tVar 9) σ H9 (.int ((kn + 1 : Nat) : Int)) := fun h => ev_is (ev_var h) (congrArg V.int (by omega))
      refine q_asgN (evn_nth (k := kn + 1) (ev_var rfl) (num rfl) mb8 R (Nat.succ_pos _)) fun v H9 e9 hv => ?_
      have mb9 := mb8.mono e9
      have x09 : ExP p H H9 := ((((e1.trans (ExP.of (e2.trans e3))).trans e4).trans (ExP.of ((e5.trans e6).trans e7))).trans e8).trans (ExP.of e9)
      have pen9 := pen8.keep e9
      have ht9 := x09.ex _ _ ht tp
      refine q_when (b := decide (each l as = 0)) (et_is (et_test (ev_op (ev_var rfl) ev_c (rv_eq rfl))) (decide_eq_decide.mpr ⟨fun z => by injection z with z; omega, fun z => congrArg V.int (by omega)⟩)) (fun hz H10 e10 => ?_) (fun hz H10 e10 => ?_)
      · have hz := of_decide_eq_true hz
        have ct : cnt as = tot l m as := by
          unfold tot
          rw [thr_take hlen (Nat.le_refl _), List.take_of_length_le (by omega)]
        refine s_ret (v := .bl true) (ev_is (ev_op (ev_op (ev_var rfl) ev_c rv_isN) (ev_op (num rfl) (ev_is (ev_lenN (K := K) (el_lcW (K := K) (xs := as.map V.bl) (j := 11) (fun i => as.getD i false) (fun i => .bl (as.getD i false)) (ew_of (p := t) (xs := as.map V.bl) (ev_var rfl) (e10 _ _ ht9)) (by rw [List.length_map]; omega) (fun _ => rfl) (fun i x H4 e4 hx => ?_) (fun i x H4 e4 hx _ => ?_))) (congrArg V.int (congrArg _ ((given_cnt as _).trans ct)))) rv_I0) (rv_eq rfl)) ?_) fun H11 e11 => k H11 (x09.trans (ExP.of (e10.trans e11))) (pen9.keep (e10.trans e11))
        · rw [List.getElem?_map] at hx
          obtain ⟨z, hz, rfl⟩ := Option.map_eq_some_iff.mp hx
          exact et_B (ev_is (ev_var rfl) (congrArg V.bl (by rw [List.getD_eq_getElem?_getD, hz] <;> rfl)))
        · rw [List.getElem?_map] at hx
          obtain ⟨z, hz, rfl⟩ := Option.map_eq_some_iff.mp hx
          exact ev_is (ev_var rfl) (congrArg V.bl (by rw [List.getD_eq_getElem?_getD, hz] <;> rfl))
        · refine congrArg V.bl (decide_eq_true (congrArg V.bl ?_))
          rcases hv with ⟨c, rfl, _, _, h1 | h1⟩ | ⟨rfl, _, h1⟩
          · rw [decide_eq_false (fun z => nomatch z), decide_eq_false (by omega)]
          · omega
          · rw [decide_eq_true rfl, decide_eq_true (by omega)]
      · have hz := of_decide_eq_false hz
        obtain ⟨c, rfl, gc, tc, _⟩ : ∃ c : Nat, v = .int ((c + 1 : Nat) : Int) ∧ goesB l m as c = true ∧ thr l m as (c + 1) = kn + 1 ∧ (kn + 1 ≤ tot l m as ∨ 0 < each l as) := by
          rcases hv with h | ⟨_, h, _⟩
          · exact h
          · exact absurd h hz
        have mb10 := mb9.mono e10
        refine q_when (b := false) (et_is (et_or (a := false) (b := false) (et_is (et_test (ev_op (ev_var rfl) ev_c rv_isN)) (decide_eq_false (fun z => nomatch z))) fun _ => et_or (a := false) (b := false) (et_is (et_not (a := true) (et_B (ev_is (ev_callB (i := c) (ev_var rfl) (ev_var rfl) mb10 R) (congrArg V.bl gc)))) rfl) fun _ => et_is (et_test (ev_op (ev_thr (c := c + 1) (ev_var rfl) (ev_var rfl) mb10 R) (num rfl) (rv_ne rfl))) ?_) rfl) (fun z => nomatch z) fun _ H11 e11 => ?_
        · rw [tc, Bool.not_eq_false']
          exact decide_eq_true rfl
        have t1 : thr l m as c = kn := by
          have := upTo_succ (goesB l m as) c
          rw [if_pos gc] at this
          have tc : upTo (goesB l m as) (c + 1) = kn + 1 := tc
          show upTo (goesB l m as) c = kn
          omega
        refine s_ret (v := .bl true) (ev_is (ev_op (ev_thr (c := c) (ev_var rfl) (ev_is (ev_op (ev_var rfl) ev_c rv_I0) (congrArg V.int (by omega))) (mb10.mono e11) R) (ev_op (num rfl) ev_c rv_I0) (rv_eq rfl)) (congrArg V.bl (decide_eq_true (congrArg V.int ?_)))) fun H12 e12 => k H12 (x09.trans (ExP.of ((e10.trans e11).trans e12))) (pen9.keep ((e10.trans e11).trans e12))
        rw [t1]
        omega
end
end KF
set_option Elab.async false
set_option linter.all false
set_option maxRecDepth 100000
set_option maxHeartbeats 4000000
namespace KF
open PySem PySem.Spec PyProof.Rows L2 Evl
local macro_rules | `(tactic| walk_at "ev") => `(tactic| repeat' (first | exact ev_c | exact ev_var rfl | exact rv_I0 | refine' rv_I ?_ | refine' rv_eq ?_ | refine' rv_ne ?_ | refine' ev_op ?_ ?_ ?_ | exact ea_nil | refine' ea_cons ?_ ?_ | refine' et_test ?_ | refine' et_B ?_ | refine' et_not ?_ | refine' ev_notV ?_))

open PySem LamX KErr
theorem FnG_mono {P : Program} {w : World} {K : PySem.W.Frag} {mg : Str → Option Value} {base : Heap} {k n : Nat} {f : Addr} {fd : FuncData} {ps : List Str} {sp : Sp} (F : KD.FnG P w K mg base k f fd ps sp) (h : k ≤ n) : KD.FnG P w K mg base n f fd ps sp := ⟨F.len, fun A gd r => F.run A gd (r.mono h)⟩
/-- a new beat -/
def EvBt (a : Ads) (te : TE) (σ : L2.St) (H : Hp) (l m : Nat) (as : List Bool) : Prop := ∀ H1, Ex H H1 → ∀ Q : VK, (∀ b H2, Ex H1 H2 → BeatAt a H2 b l m as → Q (.ref b) H2) → te σ H1 Q
section
variable {K : PySem.W.Frag} {a : Ads} {σ : L2.St} {H : Hp} {t1 t2 t3 ta tb te ty : TE} {D : Ends} {tz tu : TS} {tt : TT} {i j n k l m : Nat} {p b t lc : Addr} {E E1 E2 : XK} {Q : VK} {x y : V} {r : R2} {as bs : List Bool} {g : Bool} {vs : List Nat} {tl : TA} {nn : Int}
theorem em_beat (h1 : Ev t1 σ H (.int (l : Nat))) (h2 : Ev t2 σ H (.int (m : Nat))) (h3 : EvX t3 σ H (as.map V.bl)) (R : Right l m as) : EvBt a (tMake a.f_Beat (spBeat a) [] E (tCons t1 (tCons t2 (tCons t3 tNil)))) σ H l m as := fun H0 e Q q =>
  h1 H0 e _ fun H2 e2 => h2 H2 (e.trans e2) _ fun H3 e3 => h3 H3 ((e.trans e2).trans e3) _ fun t H4 e4 ht b db hb hdb hne => by
    have hb2 : upd H4 db (.own b) b = none := by rw [upd_ne (Ne.symm hne)]; exact hb
    have en : Ex H4 (upd (upd H4 db (.own b)) b (.ins a.f_Beat db [])) := (Ex.new hdb).trans (Ex.new hb2)
    refine ⟨b, db, t, l, m, as, rfl, R, upd_same, en _ _ ht, fun H5 e5 h5 => ⟨rfl, q b H5 ?_ ⟨db, t, h5, ?_⟩⟩⟩
    · exact fun c o hc => e5 _ _ (en _ _ (((e2.trans e3).trans e4) _ _ hc)) (ne_of_none (((e2.trans e3).trans e4) _ _ hc) hb)
    · exact e5 _ _ (en _ _ ht) (ne_of_none ht hb)
theorem op_raw (h1 : Ev ta σ H x) (h2 : ∀ H1, Ex H H1 → tb σ H1 fun y H2 => r x y H2 Q) : tOp r ta tb σ H Q := h1 H (Ex.refl H) _ fun H1 e1 => h2 H1 e1
/-- a list of drawn bools, as a tuple -/
theorem q_tupDraws {jj : Nat} (hw : ∀ x, wipe ((wipe σ vs).set j (some x)) vs = wipe σ vs) (hi : ∀ x, ((wipe σ vs).set j (some x))[i]? = some (some (.ref p))) (hr : Ev te σ H (.int (n : Nat))) (hn : n ≤ 1000) (pen : PenL H p lc k) (hk : k + n ≤ 100000)
    (q : ∀ t (bs : List Bool) H', bs.length = n → ExP p H H' → PenAt H' p (k + n) → H' t = some (.tup (bs.map V.bl)) → tz D (σ.set jj (some (.ref t))) H') :
    tSeq (tAsg (tCB (fun xs H Q => ∃ p ys, xs = [V.ref p] ∧ ((SqL K H p ys ∧ ∀ l, H l = none → Q (.ref l) (upd H l (.tup ys))) ∨ (SqT K H p ys ∧ Q (.ref p) H))) (tCons (tLc (iRng1 (tCons te tNil)) (gName j) tYes (tOp rEq (tCall spDraw [] E (tCons (tVar i) (tCons (tC (.int 2)) tNil))) (tC (.int 0))) vs) tNil)) (gName jj)) tz D σ H :=
  hr H (Ex.refl H) _ fun H1 e1 => ⟨(n : Nat), rfl, by omega, by omega, fun Dl hD => by
    have pen1 := pen.keep e1
    obtain ⟨np, nl⟩ := pen1.ne hD
    have fin : ∀ (bs : List Bool) H', bs.length = n → ExP p H H' → PenL H' p lc (k + n) → H' Dl = some (.lst (bs.map V.bl)) → ∃ (pp : Addr) (ys : List V), [V.ref Dl] = [V.ref pp] ∧ ((SqL K H' pp ys ∧ ∀ l, H' l = none → tz D (σ.set jj (some (.ref l))) (upd H' l (.tup ys))) ∨ (SqT K H' pp ys ∧ tz D (σ.set jj (some (.ref pp))) H')) := fun bs H' hl e b h => ⟨Dl, _, rfl, .inl ⟨sq_of h, fun l hl2 => q l bs _ hl (e.trans (ExP.of (Ex.new hl2))) (b.pen.keep (Ex.new hl2)) upd_same⟩⟩
    refine lc_range (lo := 0) (n := n) (fun i H' => ∃ bs : List Bool, bs.length = i ∧ ExP p H H' ∧ PenL H' p lc (k + i) ∧ H' Dl = some (.lst (bs.map V.bl))) ⟨[], rfl, (ExP.of e1).trans (ExP.of (Ex.new hD)), pen1.keep (Ex.new hD), upd_same⟩ (fun t H' hi' qq => ⟨hw _, (et_yes : EvT tYes _ H' true) H' (Ex.refl _) _ fun H3 e3 => ?_⟩) (fun H' qq => ?_)
    · obtain ⟨bs, hl, e, b, hd⟩ := qq
      have e := e.trans (ExP.of e3)
      have b := b.keep e3
      have hd := e3 _ _ hd
      show tCall spDraw [] E (tCons (tVar i) (tCons (tC (.int 2)) tNil)) _ H3 _
      refine draw_raw (p := p) 2 (hi _) ev_c b.pen (by omega) (by decide) (lim_small (by decide)) fun d H4 hdm e4 b4 => ⟨rfl, _, e4.ex _ _ hd (Ne.symm np), by rw [List.length_map, hl]; exact Nat.lt_of_lt_of_le (Nat.lt_of_lt_of_le hi' hn) (by decide), bs ++ [decide (V.int (d : Nat) = V.int 0)], by rw [List.length_append, hl] <;> rfl, ⟨fun b' o ho ne => ?_, fun l2 x2 y2 h2 => ?_⟩, (b.next b4 e4).upd np nl, by rw [upd_same, List.map_append] <;> rfl⟩
      · rw [upd_ne (ne_of_none ho (fresh_back e1 hD))]
        exact e4.ex _ _ (e.ex _ _ ho ne) ne
      · obtain ⟨x3, y3, h3⟩ := (e.trans e4).fix l2 x2 y2 h2
        exact ⟨x3, y3, by rw [upd_ne np]; exact h3⟩
    · obtain ⟨bs, hl, e, b, hd⟩ := qq
      exact fin bs H' hl e b hd⟩
/-- the two looks at a beat of which the first one moves the pen and the tables -/
theorem q_ifRN (h1 : σ[1]? = some (some (.ref p))) (h3 : σ[3]? = some (some (.int (l : Nat)))) (h4 : σ[4]? = some (some (.int (m : Nat)))) (h5 : σ[5]? = some (some (.ref t))) (h6 : σ[6]? = some (some (.ref b))) (pen : PenAt H p n) (hn : n + 3 ≤ 100000) (tab : Tabs (tabsT a) H) (R : Right l m as) (h60 : l + m ≤ 60) (ht : H t = some (.tup (as.map V.bl))) (mb : BeatAt a H b l m as)
    (k : ∀ H', StP p H H' → PenAt H' p (n + 3) → Tabs (tabsT a) H' → tz D σ H') :
    tSeq (tIfS (tOr (tNot (tB (tCall (spRefused a) [] E1 (tCons (tVar 1) (tCons (tVar 3) (tCons (tVar 4) (tCons (tVar 5) tNil))))))) (tNot (tB (tCall (spNear a) [] E2 (tCons (tVar 6) (tCons (tVar 3) (tCons (tVar 4) (tCons (tVar 5) tNil)))))))) tu tNext) tz D σ H := by
  have tp := pen.ne_tup ht
  obtain ⟨dx, u, hb, hu⟩ := mb
  have up := pen.ne_tup hu
  have bp : b ≠ p := by
    obtain ⟨_, _, _, _, h0, _⟩ := pen
    exact ne_of hb h0 fun z => nomatch z
  refine ⟨.ref p, h1, .int (l : Nat), h3, .int (m : Nat), h4, .ref t, h5, p, t, n, l, m, as, rfl, pen, hn, tab, R, ht, fun H2 s2 pen2 tab2 => ⟨true, rfl, iteF ⟨.ref b, h6, .int (l : Nat), h3, .int (m : Nat), h4, .ref t, h5, b, t, l, m, as, rfl, ⟨dx, u, s2 _ _ hb bp (fun _ z => nomatch z), s2 _ _ hu up (fun _ z => nomatch z)⟩, R, h60, s2 _ _ ht tp (fun _ z => nomatch z), fun H3 e3 => ⟨true, rfl, iteF (k H3 (s2.trans (StP.of e3)) (pen2.keep e3) (tabs_keep tab2 e3))⟩⟩⟩⟩
theorem q_ifFar (h1 : σ[1]? = some (some (.ref p))) (h3 : σ[3]? = some (some (.int (l : Nat)))) (h4 : σ[4]? = some (some (.int (m : Nat)))) (h5 : σ[5]? = some (some (.ref t))) (h6 : σ[6]? = some (some (.ref b))) (pen : PenAt H p n) (hn : n + 3 ≤ 100000) (R : Right l m as) (ht : H t = some (.tup (as.map V.bl))) (mb : BeatAt a H b l m as)
    (k : ∀ H', ExP p H H' → PenAt H' p (n + 3) → EvT tt σ H' false ∧ ∀ H2, Ex H' H2 → tz D σ H2) :
    tSeq (tIfS (tOr (tNot (tB (tCall (spFar a) [] E1 (tCons (tVar 1) (tCons (tVar 6) (tCons (tVar 3) (tCons (tVar 4) (tCons (tVar 5) tNil)))))))) tt) tu tNext) tz D σ H :=
  ⟨.ref p, h1, .ref b, h6, .int (l : Nat), h3, .int (m : Nat), h4, .ref t, h5, p, b, t, n, l, m, as, rfl, pen, hn, mb, R, ht, fun H2 e2 pen2 => ⟨true, rfl, iteF ((k H2 e2 pen2).1 H2 (Ex.refl _) _ fun H3 e3 => iteF ((k H2 e2 pen2).2 H3 e3))⟩⟩
/-- beat == another one, a tuple -/
theorem ev_eqBt {l2 m2 : Nat} {as2 : List Bool} (h1 : Ev te σ H (.ref b)) (mb : BeatAt a H b l m as) (h2 : EvBt a ty σ H l2 m2 as2) (c : ∀ H1 q l m as, BeatAt a H1 q l m as → TyX K H1 (.ref q) (.ref a.f_Beat)) (nf : PySem.W.notFirst K a.f_Beat (.ref a.f_Beat) = true) : Ev (tOp (KD.rOwnB K a.f_Beat (fun vs H Q E => spEq a (vs ++ []) H Q E) E) te ty) σ H (.bl (decide (l = l2 ∧ m = m2 ∧ as = as2))) := fun H1 e Q k =>
  h1 H1 e _ fun H2 e2 => h2 H2 (e.trans e2) _ fun q H3 e3 mq => by
    have m3 := mb.mono ((e.trans e2).trans e3)
    obtain ⟨dx, u, ho, _⟩ := id m3
    exact ⟨b, dx, _, _, rfl, ho, c H3 q _ _ _ mq, nf, b, l, m, as, .ref q, _, rfl, m3, .inl ⟨q, l2, m2, as2, rfl, mq, rfl⟩, fun H4 e4 => k H4 ((e2.trans e3).trans e4)⟩
theorem ev_eqTup {xs : List V} (h1 : Ev te σ H (.ref b)) (mb : BeatAt a H b l m as) (h2 : EvU ty σ H xs) (nf : PySem.W.notFirst K a.f_Beat (.type "tuple") = true) : Ev (tOp (KD.rOwnB K a.f_Beat (fun vs H Q E => spEq a (vs ++ []) H Q E) E) te ty) σ H (.bl false) := fun H1 e Q k =>
  h1 H1 e _ fun H2 e2 => h2 H2 (e.trans e2) _ fun q H3 _ e3 hq => by
    have m3 := mb.mono ((e.trans e2).trans e3)
    obtain ⟨dx, u, ho, _⟩ := id m3
    exact ⟨b, dx, _, _, rfl, ho, .base (.tup hq), nf, b, l, m, as, .ref q, false, rfl, m3, .inr ⟨rfl, q, xs, rfl, hq⟩, fun H4 e4 => k H4 ((e2.trans e3).trans e4)⟩
theorem ev_neBt {l2 m2 : Nat} {as2 : List Bool} (h1 : Ev te σ H (.ref b)) (mb : BeatAt a H b l m as) (h2 : EvBt a ty σ H l2 m2 as2) : Ev (tOp (rOwnNe a.f_Beat (fun vs H Q E => spEq a (vs ++ []) H Q E) E) te ty) σ H (.bl (!decide (l = l2 ∧ m = m2 ∧ as = as2))) := fun H1 e Q k =>
  h1 H1 e _ fun H2 e2 => h2 H2 (e.trans e2) _ fun q H3 e3 mq => by
    have m3 := mb.mono ((e.trans e2).trans e3)
    obtain ⟨dx, u, ho, _⟩ := id m3
    obtain ⟨dy, u2, hq, _⟩ := id mq
    exact ⟨b, dx, _, q, dy, _, rfl, rfl, ho, hq, b, l, m, as, .ref q, _, rfl, m3, .inl ⟨q, l2, m2, as2, rfl, mq, rfl⟩, fun H4 e4 => ⟨_, rfl, k H4 ((e2.trans e3).trans e4)⟩⟩
end
end KF
set_option Elab.async false
set_option linter.all false
set_option maxRecDepth 100000
set_option maxHeartbeats 4000000
namespace KF
open PySem PySem.Spec PyProof.Rows L2 Evl
local macro_rules | `(tactic| walk_at "ev") => `(tactic| repeat' (first | exact ev_c | exact ev_var rfl | exact rv_I0 | refine' rv_I ?_ | refine' rv_eq ?_ | refine' rv_ne ?_ | refine' ev_op ?_ ?_ ?_ | exact ea_nil | refine' ea_cons ?_ ?_ | refine' et_test ?_ | refine' et_B ?_ | refine' et_not ?_ | refine' ev_notV ?_))

open PySem LamX KErr
def spLaw (K : PySem.W.Frag) (a : Ads) : Sp := fun vs H Q _ => ∃ (s : Addr) (ns : List Int), vs = [.ref s] ∧ SqL K H s (ns.map V.int) ∧ ns.length ≤ 63 ∧ H a.PR = some (.tbl #[]) ∧ ∀ H', Q (.bl true) H'
theorem q_asgBt {a : Ads} {te : TE} {σ : L2.St} {H : Hp} {l m i : Nat} {as : List Bool} {D : Ends} {tz : TS} (h : EvBt a te σ H l m as) (k : ∀ b H1, Ex H H1 → BeatAt a H1 b l m as → tz D (σ.set i (some (.ref b))) H1) : tSeq (tAsg te (gName i)) tz D σ H := h H (Ex.refl H) _ fun b H1 e mb => k b H1 e mb
/-- the answers, the last one turned -/
def turned (as : List Bool) : List Bool := as.take (as.length - 1) ++ [!as.getD (as.length - 1) false]
theorem turned_len {as : List Bool} (h : 0 < as.length) : (turned as).length = as.length := by
  unfold turned
  rw [List.length_append, List.length_take]
  show min _ _ + 1 = _
  omega
theorem turned_ne {as : List Bool} (h : 0 < as.length) : as ≠ turned as := fun z => by
  have h1 : (turned as)[as.length - 1]? = some (!as.getD (as.length - 1) false) := by
    unfold turned
    rw [List.getElem?_append_right (by rw [List.length_take]; omega), List.length_take, show as.length - 1 - min (as.length - 1) as.length = 0 by omega]
    rfl
  rw [← z, List.getElem?_eq_getElem (by omega), List.getD_eq_getElem?_getD, List.getElem?_eq_getElem (show as.length - 1 < as.length by omega)] at h1
  have h1 := Option.some.inj h1
  show False
  revert h1
  show as[as.length - 1] = !as[as.length - 1] → False
  cases as[as.length - 1] <;> decide
section
variable {P : Program} {w : World} {K : PySem.W.Frag} {mg : Str → Option Value} {base : Heap} {a : Ads}
theorem ok_law (T : Txt w K mg a) {fL : Addr} {oc kV doc pm cdv ct : Value} {od an : Option Addr} {osl : Array (Option Value)} (lkL : K.lookup fL = some ⟨oc, od, .func (PySem.W.fnOf "law" "law" (defArgs s_law) (defBody s_law) (defScope s_law) .none kV doc pm an cdv ct), osl⟩) (hcdL : PySem.W.codeIn K cdv "law" = true) (TBR : TabB base mg a.cR a.PR) :
    KD.FnG P w K mg base 11 fL (PySem.W.fnOf "law" "law" (defArgs s_law) (defBody s_law) (defScope s_law) .none kV doc pm an cdv ct) ["_law_script"] (spLaw K a) := by
  have G__law_pen : FnOk P w K mg base CX0 10 _ _ _ _ := (ok_pen T).mono (by decide)
  have G__law_draw : FnOk P w K mg base CX0 10 _ _ _ _ := (ok_draw T).mono (by decide)
  have G__law_far_right : FnOk P w K mg base CX0 10 _ _ _ _ := (ok_far T).mono (by decide)
  have G__law_refused_right : KD.FnG P w K mg base 10 _ _ _ _ := ok_refused T TBR
  have G__law_near_right : KD.FnG P w K mg base 10 _ _ _ _ := FnG_mono (ok_near T) (by decide)
  have G_Beat_init : FnOk P w K mg base CX0 9 _ _ _ _ := (ok_Beat_init T).mono (by decide)
  have G_Beat_lead : FnOk P w K mg base CX0 9 _ _ _ _ := (ok_Beat_lead T).mono (by decide)
  have G_Beat_period : FnOk P w K mg base CX0 9 _ _ _ _ := (ok_Beat_period T).mono (by decide)
  have G_Beat_answers : FnOk P w K mg base CX0 9 _ _ _ _ := (ok_Beat_answers T).mono (by decide)
  have G_eq : FnOk P w K mg base CX0 10 _ _ _ _ := (ok_Beat_eq T).mono (by decide)
  have G_eq9 : FnOk P w K mg base CX0 9 _ _ _ _ := (ok_Beat_eq T).mono (by decide)
  refine KD.fnG_of lkL hcdL sc_law (fun vs H Q E h => ?_) fun A outer s H vs Q E gd hr h => ?_
  · obtain ⟨_, _, rfl, _⟩ := h
    rfl
  · obtain ⟨sc, ns, rfl, hs, hl, tabR, kk⟩ := h
    have hrc : Room 10 _ := hr
    have hrm : Room (9 + 1) _ := hr
    have hu64 := hr.units
    refine ⟨_, (show PSs (cxOf CX0 P w K mg base n_law "law" (defScope s_law) fL cdv A outer s H E).nox (defBody s_law) _ from (pss_cons (ps_set (i := 1) sc_law.nd rfl (Or.inr rfl) (pe_call G__law_pen hrc rfl T.mg__law_pen T.fn__law_pen.kp (bd__law_pen T) .nil pass0 (pa_cons (pv 0) pa_nil)))
    (pss_cons (ps_for PassesOwn.never rfl (pi_range1 rfl T.b_range (pa_cons pe_int pa_nil)) (pg_name (i := 2) sc_law.nd rfl (Or.inl rfl)) (pss_cons (ps_par (i := 3) (j := 4) rfl sc_law.nd rfl rfl (by decide) rfl rfl (pa_cons (pe_call G__law_draw hrc rfl T.mg__law_draw T.fn__law_draw.kp (bd__law_draw T) .nil pass0 (pa_cons (pv 1) (pa_cons pe_int pa_nil))) (pa_cons (pe_op op_add pe_int (pe_call G__law_draw hrc rfl T.mg__law_draw T.fn__law_draw.kp (bd__law_draw T) .nil pass0 (pa_cons (pv 1) (pa_cons pe_int pa_nil)))) pa_nil)) (by rfl))
    (pss_cons (ps_set (i := 5) sc_law.nd rfl (Or.inl rfl) (pe_callTy call_tuple_of (by rfl) T.b_tuple (by decide +kernel) (pa_cons (pe_lc (own := [("_law_spot", 8)]) (g := gName 8) rfl sc_law.nd (pi_range1 rfl T.b_range (pa_cons (pe_op op_add (pv 3) (pv 4)) pa_nil)) (blkOk_by (own := [("_law_spot", 8)]) (N := n_law) (sc := defScope s_law) (by decide +kernel)) (fun _ _ _ _ _ => (pg_name (i := 8) sc_law.nd rfl (Or.inl rfl))) (fun _ _ _ _ _ => pts_nil) (fun _ _ _ _ _ => (pe_cmpR op_eq (pe_call G__law_draw hrc rfl T.mg__law_draw T.fn__law_draw.kp (bd__law_draw T) .nil pass0 (pa_cons (pv 1) (pa_cons pe_int pa_nil))) pe_int (nomark _)))) pa_nil)))
    (pss_cons (ps_set (i := 6) sc_law.nd rfl (Or.inl rfl) (pe_make T.mk_Beat G_Beat_init hrm rfl T.mg_Beat (bd_BeatD_initD T) .nil pass0 (pa_cons (pv 3) (pa_cons (pv 4) (pa_cons (pv 5) pa_nil)))))
    (pss_cons (ps_if (pt_cmpR op_ne (pe_callB (KD.call_reprV gd hu64) (by rfl) T.b_repr PyProof.Rows.boot_repr (pa_cons (pe_lst (pa_cons (pe_prop (pv 6) T.c_Beat T.p_Beat_lead (G_Beat_lead) hrm (bd_Beat_lead T) .nil pass0 rfl) (pa_cons (pe_prop (pv 6) T.c_Beat T.p_Beat_period (G_Beat_period) hrm (bd_Beat_period T) .nil pass0 rfl) (pa_cons (pe_prop (pv 6) T.c_Beat T.p_Beat_answers (G_Beat_answers) hrm (bd_Beat_answers T) .nil pass0 rfl) pa_nil)))) pa_nil)) (pe_callB (KD.call_reprV gd hu64) (by rfl) T.b_repr PyProof.Rows.boot_repr (pa_cons (pe_lst (pa_cons (pv 3) (pa_cons (pv 4) (pa_cons (pv 5) pa_nil)))) pa_nil)) (nomark _)) (pss_one (ps_ret pe_bl)) pss_nil)
    (pss_cons (ps_if (PW.pt (pw_or (pt_not (pt_val (KD.pe_callG (E := fun _ _ _ => False) G__law_refused_right gd hrc rfl T.mg__law_refused_right T.fn__law_refused_right.kp (bd__law_refused_right T) (pa_cons (pv 1) (pa_cons (pv 3) (pa_cons (pv 4) (pa_cons (pv 5) pa_nil))))))) (pw_or1 (pt_not (pt_val (KD.pe_callG (E := fun _ _ _ => False) G__law_near_right gd hrc rfl T.mg__law_near_right T.fn__law_near_right.kp (bd__law_near_right T) (pa_cons (pv 6) (pa_cons (pv 3) (pa_cons (pv 4) (pa_cons (pv 5) pa_nil)))))))))) (pss_one (ps_ret pe_bl)) pss_nil)
    (pss_cons (ps_if (PW.pt (pw_or (pt_not (pt_val (pe_call G__law_far_right hrc rfl T.mg__law_far_right T.fn__law_far_right.kp (bd__law_far_right T) .nil pass0 (pa_cons (pv 1) (pa_cons (pv 6) (pa_cons (pv 3) (pa_cons (pv 4) (pa_cons (pv 5) pa_nil)))))))) (pw_or1 (pt_cmpR (op_ownNe T.ne_Beat T.im_Beat T.m_BeatD_eqD.at_ T.m_BeatD_eqD.fn (G_eq9.raw (bd_BeatD_eqD T) .nil) hrm pass0) (pv 6) (pe_make T.mk_Beat G_Beat_init hrm rfl T.mg_Beat (bd_BeatD_initD T) .nil pass0 (pa_cons (pv 3) (pa_cons (pv 4) (pa_cons (pe_callTy call_tuple_of (by rfl) T.b_tuple (by decide +kernel) (pa_cons (pe_callTy call_list_of (by rfl) T.b_list (by decide +kernel) (pa_cons (pv 5) pa_nil)) pa_nil)) pa_nil)))) (nomark _))))) (pss_one (ps_ret pe_bl)) pss_nil)
    (pss_cons (ps_set (i := 7) sc_law.nd rfl (Or.inl rfl) (pe_op op_catA (pe_slice sl_tupA (pv 5) po_none (po_some (pe_un un_neg pe_int))) (pe_tup (pa_cons (pe_not (pe_ix ix_tup (pv 5) (pe_un un_neg pe_int) (fun _ _ => rfl))) pa_nil))))
    (pss_cons (ps_if (PW.pt (pw_or (pt_cmpR (KD.op_ownB (op := .Eq) (by intro _ _; rfl) T.m_BeatD_eqD.at_ T.m_BeatD_eqD.fn (G_eq.raw (bd_BeatD_eqD T) .nil) hrc pass0) (pv 6) (pe_make T.mk_Beat G_Beat_init hrm rfl T.mg_Beat (bd_BeatD_initD T) .nil pass0 (pa_cons (pv 3) (pa_cons (pv 4) (pa_cons (pv 7) pa_nil)))) (nomark _)) (pw_or1 (pt_cmpR (KD.op_ownB (op := .Eq) (by intro _ _; rfl) T.m_BeatD_eqD.at_ T.m_BeatD_eqD.fn (G_eq.raw (bd_BeatD_eqD T) .nil) hrc pass0) (pv 6) (pe_make T.mk_Beat G_Beat_init hrm rfl T.mg_Beat (bd_BeatD_initD T) .nil pass0 (pa_cons (pe_op op_add (pv 3) pe_int) (pa_cons (pv 4) (pa_cons (pe_op op_catA (pe_slice sl_tupA (pv 5) po_none (po_some pe_int)) (pv 5)) pa_nil)))) (nomark _))))) (pss_one (ps_ret pe_bl)) pss_nil)
    (pss_cons (ps_if (pt_cmpR (KD.op_ownB (op := .Eq) (by intro _ _; rfl) T.m_BeatD_eqD.at_ T.m_BeatD_eqD.fn (G_eq.raw (bd_BeatD_eqD T) .nil) hrc pass0) (pv 6) (pe_make T.mk_Beat G_Beat_init hrm rfl T.mg_Beat (bd_BeatD_initD T) .nil pass0 (pa_cons (pv 3) (pa_cons (pe_op op_mul pe_int (pv 4)) (pa_cons (pe_op op_catA (pv 5) (pe_slice sl_tupA (pv 5) (po_some (pv 3)) po_none)) pa_nil)))) (nomark _)) (pss_one (ps_ret pe_bl)) pss_nil)
    (pss_one (ps_if (PW.pt (pw_or (pt_cmpR (KD.op_ownB (op := .Eq) (by intro _ _; rfl) T.m_BeatD_eqD.at_ T.m_BeatD_eqD.fn (G_eq.raw (bd_BeatD_eqD T) .nil) hrc pass0) (pv 6) (pe_tup (pa_cons (pv 3) (pa_cons (pv 4) (pa_cons (pv 5) pa_nil)))) (nomark _)) (pw_or1 (PW.pt (pw_and (pt_cmpR op_gt (pv 3) pe_int (nomark _)) (pw_and1 (pt_cmpR (KD.op_ownB (op := .Eq) (by intro _ _; rfl) T.m_BeatD_eqD.at_ T.m_BeatD_eqD.fn (G_eq.raw (bd_BeatD_eqD T) .nil) hrc pass0) (pv 6) (pe_make T.mk_Beat G_Beat_init hrm rfl T.mg_Beat (bd_BeatD_initD T) .nil pass0 (pa_cons (pe_op op_sub (pv 3) pe_int) (pa_cons (pe_op op_add (pv 4) pe_int) (pa_cons (pv 5) pa_nil)))) (nomark _)))))))) (pss_one (ps_ret pe_bl)) pss_nil))))))))))))
    (pss_one (ps_ret pe_bl))))), ?_⟩
    refine ⟨.ref sc, rfl, sc, ns, rfl, hs, hl, fun p H1 hp e1 pen1 => ?_⟩
    have tab1 : Tabs (tabsT a) H1 := fun q hq => by
      rw [List.mem_singleton.mp hq]
      exact TabS.nil (e1 _ _ tabR)
    refine q_forR1 (n := 6) (ea_cons ev_c ea_nil) (by decide) (fun i σ' H' => ∃ o2 o3 o4 o5 o6 o7, σ' = [some (.ref sc), some (.ref p), o2, o3, o4, o5, o6, o7, none] ∧ PenAt H' p (30 * i) ∧ Tabs (tabsT a) H') (fun H2 e2 => ⟨_, _, _, _, _, _, rfl, pen1.keep e2, tabs_keep tab1 e2⟩) (fun i σ' H2 hi q => ?_) (fun σ' H2 q => ?_)
    · obtain ⟨o2, o3, o4, o5, o6, o7, rfl, pen2, tab2⟩ := q
      have hi6 : i < 6 := by omega
      refine q_parD (draw_raw (p := p) 7 rfl ev_c pen2 (by omega) (by decide) (lim_small (by decide)) fun l H3 hl3 e3 pen3 => op_raw ev_c fun H4 e4 => draw_raw (p := p) 6 rfl ev_c (pen3.keep e4) (by omega) (by decide) (lim_small (by decide)) fun d H5 hd e5 pen5 => ⟨1, (d : Int), rfl, rfl, _, _, rfl, ?_⟩)
      have tab5 := tabs_pen (tabs_keep (tabs_pen tab2 pen2 e3.ex) e4) (pen3.keep e4) e5.ex
      obtain ⟨m, hm⟩ : ∃ m : Nat, m = d + 1 := ⟨_, rfl⟩
      have ed : (1 : Int) + (d : Int) = ((m : Nat) : Int) := by omega
      show tSeq _ _ _ [some (.ref sc), some (.ref p), some (.int (i : Nat)), some (.int (l : Nat)), some (.int (1 + (d : Int))), o5, o6, o7, none] H5
      rw [ed]
      have hm0 : 0 < m := by omega
      have hm6 : m ≤ 6 := by omega
      obtain ⟨lc, pl5⟩ := pen5.fixL
      refine q_tupDraws (K := K) (p := p) (lc := lc) (n := l + m) (k := 30 * i + 1 + 1) (fun _ => rfl) (fun _ => rfl) (ev_is (ev_op (ev_var rfl) (ev_var rfl) rv_I0) (congrArg V.int (by omega))) (by omega) pl5 (by omega) fun t as H6 hlen e6 pen6 ht6 => ?_
      have tab6 := tabs_pen tab5 pen5 e6.ex
      have R : Right l m as := ⟨hlen, hm0, by omega, by omega⟩
      refine q_asgBt (em_beat (a := a) (l := l) (m := m) (as := as) (ev_var rfl) (ev_var rfl) (ew_of (p := t) (ev_var rfl) ht6) R) fun b H7 e7 mb7 => ?_
      have ht7 := e7 _ _ ht6
      have pen7 := pen6.keep e7
      have tab7 := tabs_keep tab6 e7
      obtain ⟨dx, u, hb7, hu7⟩ := id mb7
      obtain ⟨f1, f2, f3, f4⟩ := part_fits (l := l) (p := m) (bs := as) (by omega) (by omega) (by omega)
      have rp : ∀ t', ∀ q H', H' q = some (.lst [.int (l : Nat), .int (m : Nat), .ref t']) → H' t' = some (.tup (as.map V.bl)) → KD.RepV K H' (.ref q) (partD l m as).shown := fun t' q H' h1 h2 => .obj (.lst (sq_of h1) (.cons (.int _) (.cons (.int _) (.cons (.tup (st_of h2) (dp_bools as)) .nil)))) f1 f2 f3 f4
      refine q_when (b := false) (et_is (et_test (ev_op (ev_reprL (K := K) (xs := [.int (l : Nat), .int (m : Nat), .ref u]) (el_lst (ea_cons (ev_prop (ev_var rfl) hb7 (spv_get hb7 (fs_lead l m u))) (ea_cons (ev_prop (ev_var rfl) hb7 (spv_get hb7 (fs_period l m u))) (ea_cons (ev_prop (ev_var rfl) hb7 (spv_get hb7 (fs_answers l m u))) ea_nil))) (by show 3 ≤ 100000; decide)) fun q H' h e => rp u q H' h (e _ _ hu7)) (ev_reprL (K := K) (xs := [.int (l : Nat), .int (m : Nat), .ref t]) (el_lst (ea_cons (ev_var rfl) (ea_cons (ev_var rfl) (ea_cons (ev_var rfl) ea_nil))) (by show 3 ≤ 100000; decide)) fun q H' h e => rp t q H' h (e _ _ ht7)) (rv_ne rfl))) (by rw [Bool.not_eq_false']; exact decide_eq_true rfl)) (fun z => nomatch z) fun _ H8 e8 => ?_
      have ht8 := e8 _ _ ht7
      have mb8 := mb7.mono e8
      have pen8 := pen7.keep e8
      have tp := pen8.ne_tup ht8
      refine q_ifRN (a := a) (p := p) (b := b) (t := t) (l := l) (m := m) (n := 30 * i + 1 + 1 + (l + m)) rfl rfl rfl rfl rfl pen8 (by omega) (tabs_keep tab7 e8) R (by omega) ht8 mb8 fun H9 s9 pen9 tab9 => ?_
      have ht9 := s9 _ _ ht8 tp (fun _ z => nomatch z)
      have mb9 : BeatAt a H9 b l m as := by
        obtain ⟨dx, u, hb, hu⟩ := mb8
        obtain ⟨_, _, _, _, h0, _⟩ := id pen8
        exact ⟨dx, u, s9 _ _ hb (ne_of hb h0 fun z => nomatch z) (fun _ z => nomatch z), s9 _ _ hu (pen8.ne_tup hu) (fun _ z => nomatch z)⟩
      have ml : (as.map V.bl).length = l + m := by rw [List.length_map]; exact hlen
      refine q_ifFar (a := a) (p := p) (b := b) (t := t) (l := l) (m := m) (n := 30 * i + 1 + 1 + (l + m) + 3) rfl rfl rfl rfl rfl pen9 (by omega) R ht9 mb9 fun Ha ea penA => ⟨?_, fun Hb eb => ?_⟩
      · have mbA := mb9.exB pen9 ea.ex
        have htA := ea.ex _ _ ht9 (pen9.ne_tup ht9)
        refine et_is (et_test (ev_neBt (ev_var rfl) mbA (em_beat (l := l) (m := m) (as := as) (ev_var rfl) (ev_var rfl) (ew_u (eu_tuple (K := K) (el_listW (K := K) (ew_of (p := t) (ev_var rfl) htA)))) R))) ?_
        rw [decide_eq_true ⟨rfl, rfl, rfl⟩]
        rfl
      · have mbB := (mb9.exB pen9 ea.ex).mono eb
        have htB := eb _ _ (ea.ex _ _ ht9 (pen9.ne_tup ht9))
        have tabB := tabs_keep (tabs_pen tab9 pen9 ea.ex) eb
        have penB := penA.keep eb
        have a0 : 0 < as.length := by omega
        have lastV : atI (as.map V.bl) (-1) = some (.bl (as.getD (as.length - 1) false)) := atI_last (n := as.length - 1) (by rw [List.length_map]; omega) (by
          rw [List.getElem?_map, List.getElem?_eq_getElem (show as.length - 1 < as.length by omega), List.getD_eq_getElem?_getD, List.getElem?_eq_getElem (show as.length - 1 < as.length by omega)]
          rfl)
        refine q_asgX (xs := (turned as).map V.bl) (ew_is (ew_cat (K := K) (ew_is (ew_sl (K := K) (ew_of (p := t) (xs := as.map V.bl) (ev_var rfl) htB) eo_none (eo_some (i := -1) (ev_un ev_c ru_neg))) (cut_last as)) (ew_u (eu_tup (vs := [.bl (!as.getD (as.length - 1) false)]) (ea_cons (ev_notV (ev_op (ev_var rfl) (ev_un ev_c ru_neg) (rv_ixT (K := K) (st_of htB) lastV))) ea_nil) (by show 1 ≤ 100000; decide))) (by rw [List.length_map, List.length_take]; show _ + 1 ≤ 100000; omega)) ?_) fun o Hc ec ho => ?_
        · unfold turned
          rw [List.map_append]
          rfl
        have mbC := mbB.mono ec
        have htC := ec _ _ htB
        have eqb : ∀ {te ty : TE} {σ : L2.St} {H' : Hp} {l2 m2 : Nat} {as2 : List Bool} {E : XK}, Ev te σ H' (.ref b) → BeatAt a H' b l m as → EvBt a ty σ H' l2 m2 as2 → ¬ (l = l2 ∧ m = m2 ∧ as = as2) → EvT (tTest (tOp (KD.rOwnB K a.f_Beat (fun vs H Q E => spEq a (vs ++ []) H Q E) E) te ty)) σ H' false := fun h1 hm h2 no => et_is (et_test (ev_eqBt h1 hm h2 (fun H1 q l m as mq => tyx_beat T mq) T.nf_Beat)) (decide_eq_false no)
        refine q_when (b := false) (et_is (et_or (a := false) (b := false) (eqb (ev_var rfl) mbC (em_beat (l := l) (m := m) (as := turned as) (ev_var rfl) (ev_var rfl) (ew_of (p := o) (ev_var rfl) ho) ⟨by rw [turned_len a0]; exact hlen, hm0, by omega, by omega⟩) fun z => turned_ne a0 z.2.2) fun _ => eqb (ev_var rfl) mbC (em_beat (l := l + 1) (m := m) (as := as.take 1 ++ as) (ev_is (ev_op (ev_var rfl) ev_c rv_I0) (congrArg V.int (by omega))) (ev_var rfl) (ew_is (ew_cat (K := K) (ew_is (ew_sl (K := K) (ew_of (p := t) (xs := as.map V.bl) (ev_var rfl) htC) eo_none (eo_some (i := ((1 : Nat) : Int)) ev_c)) (cut_to as 1)) (ew_of (p := t) (xs := as.map V.bl) (ev_var rfl) htC) (by rw [List.length_map, List.length_take, ml]; omega)) (by rw [List.map_append])) ⟨by rw [List.length_append, List.length_take]; omega, hm0, by omega, by omega⟩) fun z => by omega) rfl) (fun z => nomatch z) fun _ Hd ed => ?_
        have mbD := mbC.mono ed
        have htD := ed _ _ htC
        refine q_when (b := false) (eqb (ev_var rfl) mbD (em_beat (l := l) (m := 2 * m) (as := as ++ as.drop l) (ev_var rfl) (ev_is (ev_op ev_c (ev_var rfl) (rv_I (.inl ⟨by decide, by decide⟩))) (congrArg V.int (by omega))) (ew_is (ew_cat (K := K) (ew_of (p := t) (xs := as.map V.bl) (ev_var rfl) htD) (ew_is (ew_sl (K := K) (ew_of (p := t) (xs := as.map V.bl) (ev_var rfl) htD) (eo_some (i := ((l : Nat) : Int)) (ev_var rfl)) eo_none) (cut_from as l)) (by rw [ml, List.length_map, List.length_drop]; omega)) (by rw [List.map_append])) ⟨by rw [List.length_append, List.length_drop]; omega, by omega, by omega, by omega⟩) fun z => by omega) (fun z => nomatch z) fun _ He ee => ?_
        have mbE := mbD.mono ee
        have htE := ee _ _ htD
        refine s_when (b := false) (et_is (et_or (a := false) (b := false) (et_test (ev_eqTup (xs := [.int (l : Nat), .int (m : Nat), .ref t]) (ev_var rfl) mbE (eu_tup (ea_cons (ev_var rfl) (ea_cons (ev_var rfl) (ea_cons (ev_var rfl) ea_nil))) (by show 3 ≤ 100000; decide)) T.nf_Beat_tuple)) fun _ => et_is (et_and (a := decide ((l : Int) > 0)) (b := false) (et_test (ev_op (ev_var rfl) ev_c rv_I0)) fun hl0 => eqb (ev_var rfl) mbE (em_beat (l := l - 1) (m := m + 1) (as := as) (ev_is (ev_op (ev_var rfl) ev_c rv_I0) (congrArg V.int (by have := of_decide_eq_true hl0; omega))) (ev_is (ev_op (ev_var rfl) ev_c rv_I0) (congrArg V.int (by omega))) (ew_of (p := t) (ev_var rfl) htE) ⟨by have := of_decide_eq_true hl0; omega, by omega, by omega, by omega⟩) fun z => by omega) (Bool.and_false _)) rfl) (fun z => nomatch z) fun _ Hf ef => ?_
        have eBf := ((ec.trans ed).trans ee).trans ef
        obtain ⟨lc2, plB⟩ := penB.fixL
        exact ⟨_, _, _, _, _, _, rfl, ((plB.more (m := 30 * (i + 1)) (by omega)).keep eBf).pen, tabs_keep tabB eBf⟩
    · obtain ⟨o2, o3, o4, o5, o6, o7, rfl, pen2, tab2⟩ := q
      exact s_ret (v := .bl true) ev_c fun H3 e3 => kk H3
end
end KF
set_option Elab.async false
set_option linter.all false
set_option maxRecDepth 100000
set_option maxHeartbeats 4000000
namespace KF
open PySem PySem.Spec PyProof.Rows L2 Evl
local macro_rules | `(tactic| walk_at "ev") => `(tactic| repeat' (first | exact ev_c | exact ev_var rfl | exact rv_I0 | refine' rv_I ?_ | refine' rv_eq ?_ | refine' rv_ne ?_ | refine' ev_op ?_ ?_ ?_ | exact ea_nil | refine' ea_cons ?_ ?_ | refine' et_test ?_ | refine' et_B ?_ | refine' et_not ?_ | refine' ev_notV ?_))

open PySem
theorem kit_self {K : PySem.W.Frag} {C : Addr} : PySem.W.kitOne K (.ref C) (.ref C) = some true := by
  unfold PySem.W.kitOne
  rw [if_pos (beq_iff_eq.mpr rfl)]
theorem kit_no {K : PySem.W.Frag} {C : Addr} {cd : PySem.ClassData} (ci : PySem.W.clsIn K C = some cd) (ti : PySem.W.typeIn K (.ref C) = some (.type "type")) (su : PySem.W.subIn K (.type "int") (.ref C) = some false) : PySem.W.kitOne K (.type "int") (.ref C) = some false := by
  unfold PySem.W.kitOne PySem.W.kitCls
  rw [if_neg (fun h => by have := beq_iff_eq.mp h; cases this)]
  show (if ((PySem.W.clsIn K C).isSome && PySem.W.typeIn K (.ref C) == some (.type "type")) = true then PySem.W.subIn K (.type "int") (.ref C) else none) = some false
  rw [if_pos (by rw [ci, ti]; simp), su]
theorem tup_at {K : PySem.W.Frag} {H : Hp} {k : Addr} {its : Array Value} {n : Nat} {od : Option Addr} {sl : Array (Option Value)} {xs : List V} (l : K.lookup k = some ⟨.type "tuple", od, .seq its n, sl⟩) (z : its.size ≤ sizeLine) (r : Vals xs its.toList) : SqT K H k xs := .inr ⟨_, its, n, l, rfl, rfl, z, r⟩
theorem kit_ref {K : PySem.W.Frag} {D B : Addr} {cd : PySem.ClassData} {b : Bool} (ci : PySem.W.clsIn K B = some cd) (ti : PySem.W.typeIn K (.ref B) = some (.type "type")) (su : PySem.W.subIn K (.ref D) (.ref B) = some b) (ne : D ≠ B) : PySem.W.kitOne K (.ref D) (.ref B) = some b := by
  unfold PySem.W.kitOne PySem.W.kitCls
  rw [if_neg (fun h => by have := beq_iff_eq.mp h; cases this; exact ne rfl)]
  show (if ((PySem.W.clsIn K B).isSome && PySem.W.typeIn K (.ref B) == some (.type "type")) = true then PySem.W.subIn K (.ref D) (.ref B) else none) = some b
  rw [if_pos (by rw [ci, ti]; simp), su]
theorem kit_ve {K : PySem.W.Frag} {D : Addr} {b : Bool} (su : PySem.W.subIn K (.ref D) (.type "ValueError") = some b) : PySem.W.kitOne K (.ref D) (.type "ValueError") = some b := by
  unfold PySem.W.kitOne PySem.W.kitCls
  rw [if_neg (fun h => by have := beq_iff_eq.mp h; cases this)]
  show (if PySem.W.kitMeta "ValueError" = true then PySem.W.subIn K (.ref D) (.type "ValueError") else none) = some b
  rw [if_pos (by decide +kernel), su]
theorem exm_ref {K : PySem.W.Frag} {D B : Addr} {cd : PySem.ClassData} {b : Bool} (ex : PySem.W.subIn K (.ref B) (.type "BaseException") = some true) (ci : PySem.W.clsIn K B = some cd) (ti : PySem.W.typeIn K (.ref B) = some (.type "type")) (su : PySem.W.subIn K (.ref D) (.ref B) = some b) : PySem.W.exmOne K (.ref D) (.ref B) = some b := by
  unfold PySem.W.exmOne PySem.W.kitCls
  rw [if_pos (by rw [ex]; rfl)]
  show (if ((PySem.W.clsIn K B).isSome && PySem.W.typeIn K (.ref B) == some (.type "type")) = true then PySem.W.subIn K (.ref D) (.ref B) else none) = some b
  rw [if_pos (by rw [ci, ti]; simp), su]
theorem kit_noT {K : PySem.W.Frag} {C : Addr} {t : String} {cd : PySem.ClassData} (ci : PySem.W.clsIn K C = some cd) (ti : PySem.W.typeIn K (.ref C) = some (.type "type")) (su : PySem.W.subIn K (.type t) (.ref C) = some false) : PySem.W.kitOne K (.type t) (.ref C) = some false := by
  unfold PySem.W.kitOne PySem.W.kitCls
  rw [if_neg (fun h => by have := beq_iff_eq.mp h; cases this)]
  show (if ((PySem.W.clsIn K C).isSome && PySem.W.typeIn K (.ref C) == some (.type "type")) = true then PySem.W.subIn K (.type t) (.ref C) else none) = some false
  rw [if_pos (by rw [ci, ti]; simp), su]
theorem all_mk {l : PySem.W.OpenLaw} {w : World} {K : PySem.W.Frag} {h : Heap} {mg : Str → Option Value} {fa : Addr} (X : K.In h) (G : h.Ns mainGlobals mg) (hfa : mg "law" = some (.ref fa))
    {f_is_whole f_place_of f__law_pen f__law_draw f__law_pick f__law_part f__law_refused_right f__law_near_right f__law_far_right f_Beat f_BeatD_initD f_Beat_lead p_Beat_lead f_Beat_period p_Beat_period f_Beat_answers p_Beat_answers f_Beat_through f_Beat_nth f_BeatD_eqD f_BeatD_callD x_BadBeat x_ModesError f_BadBeatD_initD cR PR f_law : Addr}
    {od_is_whole : Option Addr} {an_is_whole : Option Addr} {sl_is_whole : Array (Option Value)} {oc_is_whole kV_is_whole dc_is_whole pm_is_whole ct_is_whole : Value} {cd_is_whole : Value} {od_place_of : Option Addr} {an_place_of : Option Addr} {sl_place_of : Array (Option Value)} {oc_place_of kV_place_of dc_place_of pm_place_of ct_place_of : Value} {cd_place_of : Value} {od__law_pen : Option Addr} {an__law_pen : Option Addr} {sl__law_pen : Array (Option Value)} {oc__law_pen kV__law_pen dc__law_pen pm__law_pen ct__law_pen : Value} {cd__law_pen : Value} {od__law_draw : Option Addr} {an__law_draw : Option Addr} {sl__law_draw : Array (Option Value)} {oc__law_draw kV__law_draw dc__law_draw pm__law_draw ct__law_draw : Value} {cd__law_draw : Value} {od__law_pick : Option Addr} {an__law_pick : Option Addr} {sl__law_pick : Array (Option Value)} {oc__law_pick kV__law_pick dc__law_pick pm__law_pick ct__law_pick : Value} {cd__law_pick : Value} {od__law_part : Option Addr} {an__law_part : Option Addr} {sl__law_part : Array (Option Value)} {oc__law_part kV__law_part dc__law_part pm__law_part ct__law_part : Value} {cd__law_part : Value} {od__law_refused_right : Option Addr} {an__law_refused_right : Option Addr} {sl__law_refused_right : Array (Option Value)} {oc__law_refused_right kV__law_refused_right dc__law_refused_right pm__law_refused_right ct__law_refused_right : Value} {od__law_near_right : Option Addr} {an__law_near_right : Option Addr} {sl__law_near_right : Array (Option Value)} {oc__law_near_right kV__law_near_right dc__law_near_right pm__law_near_right ct__law_near_right : Value} {cd__law_near_right : Value} {od__law_far_right : Option Addr} {an__law_far_right : Option Addr} {sl__law_far_right : Array (Option Value)} {oc__law_far_right kV__law_far_right dc__law_far_right pm__law_far_right ct__law_far_right : Value} {cd__law_far_right : Value} {od_BeatD_initD : Option Addr} {an_BeatD_initD : Option Addr} {sl_BeatD_initD : Array (Option Value)} {oc_BeatD_initD kV_BeatD_initD dc_BeatD_initD pm_BeatD_initD ct_BeatD_initD : Value} {cd_BeatD_initD : Value} {re_Beat_lead : List Value} {od_Beat_lead : Option Addr} {an_Beat_lead : Option Addr} {sl_Beat_lead : Array (Option Value)} {oc_Beat_lead kV_Beat_lead dc_Beat_lead pm_Beat_lead ct_Beat_lead : Value} {cd_Beat_lead : Value} {re_Beat_period : List Value} {od_Beat_period : Option Addr} {an_Beat_period : Option Addr} {sl_Beat_period : Array (Option Value)} {oc_Beat_period kV_Beat_period dc_Beat_period pm_Beat_period ct_Beat_period : Value} {cd_Beat_period : Value} {re_Beat_answers : List Value} {od_Beat_answers : Option Addr} {an_Beat_answers : Option Addr} {sl_Beat_answers : Array (Option Value)} {oc_Beat_answers kV_Beat_answers dc_Beat_answers pm_Beat_answers ct_Beat_answers : Value} {cd_Beat_answers : Value} {od_Beat_through : Option Addr} {an_Beat_through : Option Addr} {sl_Beat_through : Array (Option Value)} {oc_Beat_through kV_Beat_through dc_Beat_through pm_Beat_through ct_Beat_through : Value} {cd_Beat_through : Value} {od_Beat_nth : Option Addr} {an_Beat_nth : Option Addr} {sl_Beat_nth : Array (Option Value)} {oc_Beat_nth kV_Beat_nth dc_Beat_nth pm_Beat_nth ct_Beat_nth : Value} {cd_Beat_nth : Value} {od_BeatD_eqD : Option Addr} {an_BeatD_eqD : Option Addr} {sl_BeatD_eqD : Array (Option Value)} {oc_BeatD_eqD kV_BeatD_eqD dc_BeatD_eqD pm_BeatD_eqD ct_BeatD_eqD : Value} {cd_BeatD_eqD : Value} {od_BeatD_callD : Option Addr} {an_BeatD_callD : Option Addr} {sl_BeatD_callD : Array (Option Value)} {oc_BeatD_callD kV_BeatD_callD dc_BeatD_callD pm_BeatD_callD ct_BeatD_callD : Value} {cd_BeatD_callD : Value} {cd_Beat : PySem.ClassData} {nmB qB : Str} {NB : Addr} {bsB bmB : List Value} {snB : List Str} {subB : List Value} {abB : Bool} {colB : Option Bool} {ddB : Option Addr} {m0B m1B m2B m3B m5B : Option Value} {od_BadBeatD_initD : Option Addr} {an_BadBeatD_initD : Option Addr} {sl_BadBeatD_initD : Array (Option Value)} {oc_BadBeatD_initD kV_BadBeatD_initD dc_BadBeatD_initD pm_BadBeatD_initD ct_BadBeatD_initD : Value} {cd_BadBeatD_initD : Value} {cdx_ModesError : PySem.ClassData} {od_law : Option Addr} {an_law : Option Addr} {sl_law : Array (Option Value)} {oc_law kV_law dc_law pm_law ct_law : Value} {cd_law : Value} {od_cR : Option Addr} {vs_cR : Array Value} {sl_cR : Array (Option Value)}
    (z_ValueError : PySem.W.nsIn K mainGlobals "ValueError" = some none)
    (z_isinstance : PySem.W.nsIn K mainGlobals "isinstance" = some none)
    (z_int : PySem.W.nsIn K mainGlobals "int" = some none)
    (z_bool : PySem.W.nsIn K mainGlobals "bool" = some none)
    (z_tuple : PySem.W.nsIn K mainGlobals "tuple" = some none)
    (z_list : PySem.W.nsIn K mainGlobals "list" = some none)
    (z_len : PySem.W.nsIn K mainGlobals "len" = some none)
    (z_all : PySem.W.nsIn K mainGlobals "all" = some none)
    (z_sum : PySem.W.nsIn K mainGlobals "sum" = some none)
    (z_divmod : PySem.W.nsIn K mainGlobals "divmod" = some none)
    (z_enumerate : PySem.W.nsIn K mainGlobals "enumerate" = some none)
    (z_range : PySem.W.nsIn K mainGlobals "range" = some none)
    (z_abs : PySem.W.nsIn K mainGlobals "abs" = some none)
    (z_repr : PySem.W.nsIn K mainGlobals "repr" = some none)
    (a_is_whole : PySem.W.nsIn K mainGlobals "is_whole" = some (some (.ref f_is_whole)))
    (l_is_whole : K.lookup f_is_whole = some ⟨oc_is_whole, od_is_whole, .func (PySem.W.fnOf "is_whole" "is_whole" (defArgs s_is_whole) (defBody s_is_whole) (defScope s_is_whole) .none kV_is_whole dc_is_whole pm_is_whole an_is_whole cd_is_whole ct_is_whole), sl_is_whole⟩)
    (co_is_whole : PySem.W.codeIn K cd_is_whole "is_whole" = true)
    (kp_is_whole : PySem.W.keepIn K (.ref f_is_whole) = true)
    (a_place_of : PySem.W.nsIn K mainGlobals "place_of" = some (some (.ref f_place_of)))
    (l_place_of : K.lookup f_place_of = some ⟨oc_place_of, od_place_of, .func (PySem.W.fnOf "place_of" "place_of" (defArgs s_place_of) (defBody s_place_of) (defScope s_place_of) .none kV_place_of dc_place_of pm_place_of an_place_of cd_place_of ct_place_of), sl_place_of⟩)
    (co_place_of : PySem.W.codeIn K cd_place_of "place_of" = true)
    (kp_place_of : PySem.W.keepIn K (.ref f_place_of) = true)
    (a__law_pen : PySem.W.nsIn K mainGlobals "_law_pen" = some (some (.ref f__law_pen)))
    (l__law_pen : K.lookup f__law_pen = some ⟨oc__law_pen, od__law_pen, .func (PySem.W.fnOf "_law_pen" "_law_pen" (defArgs s__law_pen) (defBody s__law_pen) (defScope s__law_pen) .none kV__law_pen dc__law_pen pm__law_pen an__law_pen cd__law_pen ct__law_pen), sl__law_pen⟩)
    (co__law_pen : PySem.W.codeIn K cd__law_pen "_law_pen" = true)
    (kp__law_pen : PySem.W.keepIn K (.ref f__law_pen) = true)
    (a__law_draw : PySem.W.nsIn K mainGlobals "_law_draw" = some (some (.ref f__law_draw)))
    (l__law_draw : K.lookup f__law_draw = some ⟨oc__law_draw, od__law_draw, .func (PySem.W.fnOf "_law_draw" "_law_draw" (defArgs s__law_draw) (defBody s__law_draw) (defScope s__law_draw) .none kV__law_draw dc__law_draw pm__law_draw an__law_draw cd__law_draw ct__law_draw), sl__law_draw⟩)
    (co__law_draw : PySem.W.codeIn K cd__law_draw "_law_draw" = true)
    (kp__law_draw : PySem.W.keepIn K (.ref f__law_draw) = true)
    (a__law_pick : PySem.W.nsIn K mainGlobals "_law_pick" = some (some (.ref f__law_pick)))
    (l__law_pick : K.lookup f__law_pick = some ⟨oc__law_pick, od__law_pick, .func (PySem.W.fnOf "_law_pick" "_law_pick" (defArgs s__law_pick) (defBody s__law_pick) (defScope s__law_pick) .none kV__law_pick dc__law_pick pm__law_pick an__law_pick cd__law_pick ct__law_pick), sl__law_pick⟩)
    (co__law_pick : PySem.W.codeIn K cd__law_pick "_law_pick" = true)
    (kp__law_pick : PySem.W.keepIn K (.ref f__law_pick) = true)
    (a__law_part : PySem.W.nsIn K mainGlobals "_law_part" = some (some (.ref f__law_part)))
    (l__law_part : K.lookup f__law_part = some ⟨oc__law_part, od__law_part, .func (PySem.W.fnOf "_law_part" "_law_part" (defArgs s__law_part) (defBody s__law_part) (defScope s__law_part) .none kV__law_part dc__law_part pm__law_part an__law_part cd__law_part ct__law_part), sl__law_part⟩)
    (co__law_part : PySem.W.codeIn K cd__law_part "_law_part" = true)
    (kp__law_part : PySem.W.keepIn K (.ref f__law_part) = true)
    (a__law_refused_right : PySem.W.nsIn K mainGlobals "_law_refused_right" = some (some (.ref f__law_refused_right)))
    (l__law_refused_right : K.lookup f__law_refused_right = some ⟨oc__law_refused_right, od__law_refused_right, .func (PySem.W.fnOf "_law_refused_right" "_law_refused_right" (defArgs s__law_refused_right) (defBody s__law_refused_right) (defScope s__law_refused_right) .none kV__law_refused_right dc__law_refused_right pm__law_refused_right an__law_refused_right (.ref cR) ct__law_refused_right), sl__law_refused_right⟩)
    (co__law_refused_right : PySem.W.codeIn K (.ref cR) "_law_refused_right" = true)
    (kp__law_refused_right : PySem.W.keepIn K (.ref f__law_refused_right) = true)
    (a__law_near_right : PySem.W.nsIn K mainGlobals "_law_near_right" = some (some (.ref f__law_near_right)))
    (l__law_near_right : K.lookup f__law_near_right = some ⟨oc__law_near_right, od__law_near_right, .func (PySem.W.fnOf "_law_near_right" "_law_near_right" (defArgs s__law_near_right) (defBody s__law_near_right) (defScope s__law_near_right) .none kV__law_near_right dc__law_near_right pm__law_near_right an__law_near_right cd__law_near_right ct__law_near_right), sl__law_near_right⟩)
    (co__law_near_right : PySem.W.codeIn K cd__law_near_right "_law_near_right" = true)
    (kp__law_near_right : PySem.W.keepIn K (.ref f__law_near_right) = true)
    (a__law_far_right : PySem.W.nsIn K mainGlobals "_law_far_right" = some (some (.ref f__law_far_right)))
    (l__law_far_right : K.lookup f__law_far_right = some ⟨oc__law_far_right, od__law_far_right, .func (PySem.W.fnOf "_law_far_right" "_law_far_right" (defArgs s__law_far_right) (defBody s__law_far_right) (defScope s__law_far_right) .none kV__law_far_right dc__law_far_right pm__law_far_right an__law_far_right cd__law_far_right ct__law_far_right), sl__law_far_right⟩)
    (co__law_far_right : PySem.W.codeIn K cd__law_far_right "_law_far_right" = true)
    (kp__law_far_right : PySem.W.keepIn K (.ref f__law_far_right) = true)
    (a_Beat : PySem.W.nsIn K mainGlobals "Beat" = some (some (.ref f_Beat)))
    (pg_Beat : PySem.W.plainGet K f_Beat Str.empty = true)
    (hd_Beat : PySem.W.hasDictIn K f_Beat = true)
    (po_Beat : PySem.W.plainOver K f_Beat = true)
    (sa_Beat : PySem.W.findIn K (.ref f_Beat) "__setattr__" = some (some (.builtin "object.__setattr__")))
    (n_lead_Beat : PySem.W.findIn K (.ref f_Beat) "_lead" = some none)
    (n_period_Beat : PySem.W.findIn K (.ref f_Beat) "_period" = some none)
    (n_answers_Beat : PySem.W.findIn K (.ref f_Beat) "_answers" = some none)
    (at_BeatD_initD : PySem.W.findIn K (.ref f_Beat) "__init__" = some (some (.ref f_BeatD_initD)))
    (fi_BeatD_initD : PySem.W.isFn K (.ref f_BeatD_initD) = true)
    (l_BeatD_initD : K.lookup f_BeatD_initD = some ⟨oc_BeatD_initD, od_BeatD_initD, .func (PySem.W.fnOf "__init__" "Beat.__init__" (defArgs s_BeatD_initD) (defBody s_BeatD_initD) (defScope s_BeatD_initD) .none kV_BeatD_initD dc_BeatD_initD pm_BeatD_initD an_BeatD_initD cd_BeatD_initD ct_BeatD_initD), sl_BeatD_initD⟩)
    (co_BeatD_initD : PySem.W.codeIn K cd_BeatD_initD "Beat.__init__" = true)
    (kp_BeatD_initD : PySem.W.keepIn K (.ref f_BeatD_initD) = true)
    (mk_Beat : PySem.W.makesIn K f_Beat = true)
    (kc_Beat : PySem.W.keepIn K (.ref f_Beat) = true)
    (at_Beat_lead : PySem.W.findIn K (.ref f_Beat) "lead" = some (some (.ref p_Beat_lead)))
    (ge_Beat_lead : PySem.W.specialIn K (.ref p_Beat_lead) "__get__" = some (some (.builtin "property.__get__")))
    (ta_Beat_lead : PySem.W.takesIn K (.ref p_Beat_lead) = some true)
    (rc_Beat_lead : PySem.W.recIn K p_Beat_lead "property" = some (.ref f_Beat_lead :: re_Beat_lead))
    (l_Beat_lead : K.lookup f_Beat_lead = some ⟨oc_Beat_lead, od_Beat_lead, .func (PySem.W.fnOf "lead" "Beat.lead" (defArgs s_Beat_lead) (defBody s_Beat_lead) (defScope s_Beat_lead) .none kV_Beat_lead dc_Beat_lead pm_Beat_lead an_Beat_lead cd_Beat_lead ct_Beat_lead), sl_Beat_lead⟩)
    (co_Beat_lead : PySem.W.codeIn K cd_Beat_lead "Beat.lead" = true)
    (kp_Beat_lead : PySem.W.keepIn K (.ref f_Beat_lead) = true)
    (at_Beat_period : PySem.W.findIn K (.ref f_Beat) "period" = some (some (.ref p_Beat_period)))
    (ge_Beat_period : PySem.W.specialIn K (.ref p_Beat_period) "__get__" = some (some (.builtin "property.__get__")))
    (ta_Beat_period : PySem.W.takesIn K (.ref p_Beat_period) = some true)
    (rc_Beat_period : PySem.W.recIn K p_Beat_period "property" = some (.ref f_Beat_period :: re_Beat_period))
    (l_Beat_period : K.lookup f_Beat_period = some ⟨oc_Beat_period, od_Beat_period, .func (PySem.W.fnOf "period" "Beat.period" (defArgs s_Beat_period) (defBody s_Beat_period) (defScope s_Beat_period) .none kV_Beat_period dc_Beat_period pm_Beat_period an_Beat_period cd_Beat_period ct_Beat_period), sl_Beat_period⟩)
    (co_Beat_period : PySem.W.codeIn K cd_Beat_period "Beat.period" = true)
    (kp_Beat_period : PySem.W.keepIn K (.ref f_Beat_period) = true)
    (at_Beat_answers : PySem.W.findIn K (.ref f_Beat) "answers" = some (some (.ref p_Beat_answers)))
    (ge_Beat_answers : PySem.W.specialIn K (.ref p_Beat_answers) "__get__" = some (some (.builtin "property.__get__")))
    (ta_Beat_answers : PySem.W.takesIn K (.ref p_Beat_answers) = some true)
    (rc_Beat_answers : PySem.W.recIn K p_Beat_answers "property" = some (.ref f_Beat_answers :: re_Beat_answers))
    (l_Beat_answers : K.lookup f_Beat_answers = some ⟨oc_Beat_answers, od_Beat_answers, .func (PySem.W.fnOf "answers" "Beat.answers" (defArgs s_Beat_answers) (defBody s_Beat_answers) (defScope s_Beat_answers) .none kV_Beat_answers dc_Beat_answers pm_Beat_answers an_Beat_answers cd_Beat_answers ct_Beat_answers), sl_Beat_answers⟩)
    (co_Beat_answers : PySem.W.codeIn K cd_Beat_answers "Beat.answers" = true)
    (kp_Beat_answers : PySem.W.keepIn K (.ref f_Beat_answers) = true)
    (at_Beat_through : PySem.W.findIn K (.ref f_Beat) "through" = some (some (.ref f_Beat_through)))
    (fi_Beat_through : PySem.W.isFn K (.ref f_Beat_through) = true)
    (l_Beat_through : K.lookup f_Beat_through = some ⟨oc_Beat_through, od_Beat_through, .func (PySem.W.fnOf "through" "Beat.through" (defArgs s_Beat_through) (defBody s_Beat_through) (defScope s_Beat_through) .none kV_Beat_through dc_Beat_through pm_Beat_through an_Beat_through cd_Beat_through ct_Beat_through), sl_Beat_through⟩)
    (co_Beat_through : PySem.W.codeIn K cd_Beat_through "Beat.through" = true)
    (kp_Beat_through : PySem.W.keepIn K (.ref f_Beat_through) = true)
    (at_Beat_nth : PySem.W.findIn K (.ref f_Beat) "nth" = some (some (.ref f_Beat_nth)))
    (fi_Beat_nth : PySem.W.isFn K (.ref f_Beat_nth) = true)
    (l_Beat_nth : K.lookup f_Beat_nth = some ⟨oc_Beat_nth, od_Beat_nth, .func (PySem.W.fnOf "nth" "Beat.nth" (defArgs s_Beat_nth) (defBody s_Beat_nth) (defScope s_Beat_nth) .none kV_Beat_nth dc_Beat_nth pm_Beat_nth an_Beat_nth cd_Beat_nth ct_Beat_nth), sl_Beat_nth⟩)
    (co_Beat_nth : PySem.W.codeIn K cd_Beat_nth "Beat.nth" = true)
    (kp_Beat_nth : PySem.W.keepIn K (.ref f_Beat_nth) = true)
    (at_BeatD_eqD : PySem.W.findIn K (.ref f_Beat) "__eq__" = some (some (.ref f_BeatD_eqD)))
    (fi_BeatD_eqD : PySem.W.isFn K (.ref f_BeatD_eqD) = true)
    (l_BeatD_eqD : K.lookup f_BeatD_eqD = some ⟨oc_BeatD_eqD, od_BeatD_eqD, .func (PySem.W.fnOf "__eq__" "Beat.__eq__" (defArgs s_BeatD_eqD) (defBody s_BeatD_eqD) (defScope s_BeatD_eqD) .none kV_BeatD_eqD dc_BeatD_eqD pm_BeatD_eqD an_BeatD_eqD cd_BeatD_eqD ct_BeatD_eqD), sl_BeatD_eqD⟩)
    (co_BeatD_eqD : PySem.W.codeIn K cd_BeatD_eqD "Beat.__eq__" = true)
    (kp_BeatD_eqD : PySem.W.keepIn K (.ref f_BeatD_eqD) = true)
    (at_BeatD_callD : PySem.W.findIn K (.ref f_Beat) "__call__" = some (some (.ref f_BeatD_callD)))
    (fi_BeatD_callD : PySem.W.isFn K (.ref f_BeatD_callD) = true)
    (fm_BeatD_callD : PySem.W.fnIn K f_BeatD_callD = true)
    (l_BeatD_callD : K.lookup f_BeatD_callD = some ⟨oc_BeatD_callD, od_BeatD_callD, .func (PySem.W.fnOf "__call__" "Beat.__call__" (defArgs s_BeatD_callD) (defBody s_BeatD_callD) (defScope s_BeatD_callD) .none kV_BeatD_callD dc_BeatD_callD pm_BeatD_callD an_BeatD_callD cd_BeatD_callD ct_BeatD_callD), sl_BeatD_callD⟩)
    (co_BeatD_callD : PySem.W.codeIn K cd_BeatD_callD "Beat.__call__" = true)
    (kp_BeatD_callD : PySem.W.keepIn K (.ref f_BeatD_callD) = true)
    (ia_Beat : PySem.W.findIn K (.ref f_Beat) "__class__" = some (some (.builtin "object.__class__")))
    (im_Beat : PySem.W.mroIn K f_Beat (.type "object") = some true)
    (ne_Beat : PySem.W.findIn K (.ref f_Beat) "__ne__" = some (some (.builtin "object.__ne__")))
    (ci_Beat : PySem.W.clsIn K f_Beat = some cd_Beat)
    (ti_Beat : PySem.W.typeIn K (.ref f_Beat) = some (.type "type"))
    (nf_Beat : PySem.W.notFirst K f_Beat (.ref f_Beat) = true)
    (nf_Beat_tuple : PySem.W.notFirst K f_Beat (.type "tuple") = true)
    (sn_Beat_tuple : PySem.W.subIn K (.type "tuple") (.ref f_Beat) = some false)
    (in0 : PySem.W.specialIn K (.builtin "object.__class__") "__get__" = some (some (.builtin "getset_descriptor.__get__")))
    (it0 : PySem.W.takesIn K (.builtin "object.__class__") = some true)
    (a_BadBeat : PySem.W.nsIn K mainGlobals "BadBeat" = some (some (.ref x_BadBeat)))
    (a_ModesError : PySem.W.nsIn K mainGlobals "ModesError" = some (some (.ref x_ModesError)))
    (xl_B : K.lookup x_BadBeat = some (excClassObj nmB qB x_BadBeat NB bsB bmB true snB subB abB colB ddB m0B m1B m2B m3B m5B "ValueError.__new__"))
    (rf_B : PySem.HandSPX.refsVE bmB = true)
    (sa_B : PySem.W.findIn K (.ref x_BadBeat) "__setattr__" = some (some (.builtin "object.__setattr__")))
    (ex_B : PySem.W.subIn K (.ref x_BadBeat) (.type "BaseException") = some true)
    (ty_B : PySem.W.typeIn K (.ref x_BadBeat) = some (.type "type"))
    (kp_B : PySem.W.keepIn K (.ref x_BadBeat) = true)
    (ga_B : PySem.W.findIn K (.ref x_BadBeat) "__getattribute__" = some (some (.builtin "BaseException.__getattribute__")))
    (gg_B : PySem.W.findIn K (.ref x_BadBeat) "__getattr__" = some none)
    (hd_B : PySem.W.hasDictIn K x_BadBeat = true)
    (cc_B : PySem.W.findIn K (.ref x_BadBeat) "__class__" = some (some (.builtin "object.__class__")))
    (mr_B : PySem.W.mroIn K x_BadBeat (.type "object") = some true)
    (np_B : PySem.W.findIn K (.ref x_BadBeat) "part" = some none)
    (in_B : PySem.W.findIn K (.ref x_BadBeat) "__init__" = some (some (.ref f_BadBeatD_initD)))
    (ti_B : PySem.W.typeIn K (.ref f_BadBeatD_initD) = some (.type "function"))
    (l_BadBeatD_initD : K.lookup f_BadBeatD_initD = some ⟨oc_BadBeatD_initD, od_BadBeatD_initD, .func (PySem.W.fnOf "__init__" "BadBeat.__init__" (defArgs s_BadBeatD_initD) (defBody s_BadBeatD_initD) (defScope s_BadBeatD_initD) .none kV_BadBeatD_initD dc_BadBeatD_initD pm_BadBeatD_initD an_BadBeatD_initD cd_BadBeatD_initD ct_BadBeatD_initD), sl_BadBeatD_initD⟩)
    (co_BadBeatD_initD : PySem.W.codeIn K cd_BadBeatD_initD "BadBeat.__init__" = true)
    (kp_BadBeatD_initD : PySem.W.keepIn K (.ref f_BadBeatD_initD) = true)
    (cix_ModesError : PySem.W.clsIn K x_ModesError = some cdx_ModesError)
    (tix_ModesError : PySem.W.typeIn K (.ref x_ModesError) = some (.type "type"))
    (suv_B : PySem.W.subIn K (.ref x_BadBeat) (.type "ValueError") = some true)
    (bex_ME : PySem.W.subIn K (.ref x_ModesError) (.type "BaseException") = some true)
    (sux_ME : PySem.W.subIn K (.ref x_BadBeat) (.ref x_ModesError) = some true)
    (a_law : PySem.W.nsIn K mainGlobals "law" = some (some (.ref f_law)))
    (l_law : K.lookup f_law = some ⟨oc_law, od_law, .func (PySem.W.fnOf "law" "law" (defArgs s_law) (defBody s_law) (defScope s_law) .none kV_law dc_law pm_law an_law cd_law ct_law), sl_law⟩)
    (co_law : PySem.W.codeIn K cd_law "law" = true)
    (kp_law : PySem.W.keepIn K (.ref f_law) = true)
    (lc_PR : K.lookup cR = some ⟨.type "code", od_cR, .fields vs_cR, sl_cR⟩)
    (v11_PR : vs_cR[11]? = some (.ref PR))
    (ch_PR : PySem.W.codeHdIn K cR PR = true)
    (kl_PR : K.lookup PR = none)
    (tb_PR : h.get? PR = some { cls := .none, data := .fields #[] })
    : KD.LawTop l w K "_law_script" mg fa h := by
  have e := hfa.symm.trans (PySem.W.mg_of X G a_law)
  obtain rfl : f_law = fa := by cases e; rfl
  have T : Txt w K mg { f_is_whole := f_is_whole, d_is_whole := PySem.W.fnOf "is_whole" "is_whole" (defArgs s_is_whole) (defBody s_is_whole) (defScope s_is_whole) .none kV_is_whole dc_is_whole pm_is_whole an_is_whole cd_is_whole ct_is_whole, f_place_of := f_place_of, d_place_of := PySem.W.fnOf "place_of" "place_of" (defArgs s_place_of) (defBody s_place_of) (defScope s_place_of) .none kV_place_of dc_place_of pm_place_of an_place_of cd_place_of ct_place_of, f__law_pen := f__law_pen, d__law_pen := PySem.W.fnOf "_law_pen" "_law_pen" (defArgs s__law_pen) (defBody s__law_pen) (defScope s__law_pen) .none kV__law_pen dc__law_pen pm__law_pen an__law_pen cd__law_pen ct__law_pen, f__law_draw := f__law_draw, d__law_draw := PySem.W.fnOf "_law_draw" "_law_draw" (defArgs s__law_draw) (defBody s__law_draw) (defScope s__law_draw) .none kV__law_draw dc__law_draw pm__law_draw an__law_draw cd__law_draw ct__law_draw, f__law_pick := f__law_pick, d__law_pick := PySem.W.fnOf "_law_pick" "_law_pick" (defArgs s__law_pick) (defBody s__law_pick) (defScope s__law_pick) .none kV__law_pick dc__law_pick pm__law_pick an__law_pick cd__law_pick ct__law_pick, f__law_part := f__law_part, d__law_part := PySem.W.fnOf "_law_part" "_law_part" (defArgs s__law_part) (defBody s__law_part) (defScope s__law_part) .none kV__law_part dc__law_part pm__law_part an__law_part cd__law_part ct__law_part, f__law_refused_right := f__law_refused_right, d__law_refused_right := PySem.W.fnOf "_law_refused_right" "_law_refused_right" (defArgs s__law_refused_right) (defBody s__law_refused_right) (defScope s__law_refused_right) .none kV__law_refused_right dc__law_refused_right pm__law_refused_right an__law_refused_right (.ref cR) ct__law_refused_right, f__law_near_right := f__law_near_right, d__law_near_right := PySem.W.fnOf "_law_near_right" "_law_near_right" (defArgs s__law_near_right) (defBody s__law_near_right) (defScope s__law_near_right) .none kV__law_near_right dc__law_near_right pm__law_near_right an__law_near_right cd__law_near_right ct__law_near_right, f__law_far_right := f__law_far_right, d__law_far_right := PySem.W.fnOf "_law_far_right" "_law_far_right" (defArgs s__law_far_right) (defBody s__law_far_right) (defScope s__law_far_right) .none kV__law_far_right dc__law_far_right pm__law_far_right an__law_far_right cd__law_far_right ct__law_far_right, f_Beat := f_Beat, f_BeatD_initD := f_BeatD_initD, d_BeatD_initD := PySem.W.fnOf "__init__" "Beat.__init__" (defArgs s_BeatD_initD) (defBody s_BeatD_initD) (defScope s_BeatD_initD) .none kV_BeatD_initD dc_BeatD_initD pm_BeatD_initD an_BeatD_initD cd_BeatD_initD ct_BeatD_initD, f_Beat_lead := f_Beat_lead, d_Beat_lead := PySem.W.fnOf "lead" "Beat.lead" (defArgs s_Beat_lead) (defBody s_Beat_lead) (defScope s_Beat_lead) .none kV_Beat_lead dc_Beat_lead pm_Beat_lead an_Beat_lead cd_Beat_lead ct_Beat_lead, p_Beat_lead := p_Beat_lead, f_Beat_period := f_Beat_period, d_Beat_period := PySem.W.fnOf "period" "Beat.period" (defArgs s_Beat_period) (defBody s_Beat_period) (defScope s_Beat_period) .none kV_Beat_period dc_Beat_period pm_Beat_period an_Beat_period cd_Beat_period ct_Beat_period, p_Beat_period := p_Beat_period, f_Beat_answers := f_Beat_answers, d_Beat_answers := PySem.W.fnOf "answers" "Beat.answers" (defArgs s_Beat_answers) (defBody s_Beat_answers) (defScope s_Beat_answers) .none kV_Beat_answers dc_Beat_answers pm_Beat_answers an_Beat_answers cd_Beat_answers ct_Beat_answers, p_Beat_answers := p_Beat_answers, f_Beat_through := f_Beat_through, d_Beat_through := PySem.W.fnOf "through" "Beat.through" (defArgs s_Beat_through) (defBody s_Beat_through) (defScope s_Beat_through) .none kV_Beat_through dc_Beat_through pm_Beat_through an_Beat_through cd_Beat_through ct_Beat_through, f_Beat_nth := f_Beat_nth, d_Beat_nth := PySem.W.fnOf "nth" "Beat.nth" (defArgs s_Beat_nth) (defBody s_Beat_nth) (defScope s_Beat_nth) .none kV_Beat_nth dc_Beat_nth pm_Beat_nth an_Beat_nth cd_Beat_nth ct_Beat_nth, f_BeatD_eqD := f_BeatD_eqD, d_BeatD_eqD := PySem.W.fnOf "__eq__" "Beat.__eq__" (defArgs s_BeatD_eqD) (defBody s_BeatD_eqD) (defScope s_BeatD_eqD) .none kV_BeatD_eqD dc_BeatD_eqD pm_BeatD_eqD an_BeatD_eqD cd_BeatD_eqD ct_BeatD_eqD, f_BeatD_callD := f_BeatD_callD, d_BeatD_callD := PySem.W.fnOf "__call__" "Beat.__call__" (defArgs s_BeatD_callD) (defBody s_BeatD_callD) (defScope s_BeatD_callD) .none kV_BeatD_callD dc_BeatD_callD pm_BeatD_callD an_BeatD_callD cd_BeatD_callD ct_BeatD_callD, x_BadBeat := x_BadBeat, x_ModesError := x_ModesError, f_BadBeatD_initD := f_BadBeatD_initD, d_BadBeatD_initD := PySem.W.fnOf "__init__" "BadBeat.__init__" (defArgs s_BadBeatD_initD) (defBody s_BadBeatD_initD) (defScope s_BadBeatD_initD) .none kV_BadBeatD_initD dc_BadBeatD_initD pm_BadBeatD_initD an_BadBeatD_initD cd_BadBeatD_initD ct_BadBeatD_initD, cR := cR, PR := PR } := {
    b_ValueError := PySem.W.mg_none_of X G z_ValueError,
    b_isinstance := PySem.W.mg_none_of X G z_isinstance,
    b_int := PySem.W.mg_none_of X G z_int,
    b_bool := PySem.W.mg_none_of X G z_bool,
    b_tuple := PySem.W.mg_none_of X G z_tuple,
    b_list := PySem.W.mg_none_of X G z_list,
    b_len := PySem.W.mg_none_of X G z_len,
    b_all := PySem.W.mg_none_of X G z_all,
    b_sum := PySem.W.mg_none_of X G z_sum,
    b_divmod := PySem.W.mg_none_of X G z_divmod,
    b_enumerate := PySem.W.mg_none_of X G z_enumerate,
    b_range := PySem.W.mg_none_of X G z_range,
    b_abs := PySem.W.mg_none_of X G z_abs,
    b_repr := PySem.W.mg_none_of X G z_repr,
    mg_is_whole := PySem.W.mg_of X G a_is_whole,
    fn_is_whole := fun_mk (st := s_is_whole) l_is_whole co_is_whole kp_is_whole,
    mg_place_of := PySem.W.mg_of X G a_place_of,
    fn_place_of := fun_mk (st := s_place_of) l_place_of co_place_of kp_place_of,
    mg__law_pen := PySem.W.mg_of X G a__law_pen,
    fn__law_pen := fun_mk (st := s__law_pen) l__law_pen co__law_pen kp__law_pen,
    mg__law_draw := PySem.W.mg_of X G a__law_draw,
    fn__law_draw := fun_mk (st := s__law_draw) l__law_draw co__law_draw kp__law_draw,
    mg__law_pick := PySem.W.mg_of X G a__law_pick,
    fn__law_pick := fun_mk (st := s__law_pick) l__law_pick co__law_pick kp__law_pick,
    mg__law_part := PySem.W.mg_of X G a__law_part,
    fn__law_part := fun_mk (st := s__law_part) l__law_part co__law_part kp__law_part,
    mg__law_refused_right := PySem.W.mg_of X G a__law_refused_right,
    fn__law_refused_right := fun_mk (st := s__law_refused_right) l__law_refused_right co__law_refused_right kp__law_refused_right,
    mg__law_near_right := PySem.W.mg_of X G a__law_near_right,
    fn__law_near_right := fun_mk (st := s__law_near_right) l__law_near_right co__law_near_right kp__law_near_right,
    mg__law_far_right := PySem.W.mg_of X G a__law_far_right,
    fn__law_far_right := fun_mk (st := s__law_far_right) l__law_far_right co__law_far_right kp__law_far_right,
    mg_Beat := PySem.W.mg_of X G a_Beat,
    c_Beat := ⟨pg_Beat, hd_Beat, po_Beat, sa_Beat⟩,
    n_lead_Beat := n_lead_Beat,
    n_period_Beat := n_period_Beat,
    n_answers_Beat := n_answers_Beat,
    mk_Beat := ⟨mk_Beat, at_BeatD_initD, fi_BeatD_initD, kc_Beat⟩,
    fn_BeatD_initD := fun_mk (st := s_BeatD_initD) l_BeatD_initD co_BeatD_initD kp_BeatD_initD,
    p_Beat_lead := ⟨at_Beat_lead, ge_Beat_lead, ta_Beat_lead, ⟨_, rc_Beat_lead⟩⟩,
    fn_Beat_lead := fun_mk (st := s_Beat_lead) l_Beat_lead co_Beat_lead kp_Beat_lead,
    p_Beat_period := ⟨at_Beat_period, ge_Beat_period, ta_Beat_period, ⟨_, rc_Beat_period⟩⟩,
    fn_Beat_period := fun_mk (st := s_Beat_period) l_Beat_period co_Beat_period kp_Beat_period,
    p_Beat_answers := ⟨at_Beat_answers, ge_Beat_answers, ta_Beat_answers, ⟨_, rc_Beat_answers⟩⟩,
    fn_Beat_answers := fun_mk (st := s_Beat_answers) l_Beat_answers co_Beat_answers kp_Beat_answers,
    m_Beat_through := ⟨at_Beat_through, fi_Beat_through, kp_Beat_through⟩,
    fn_Beat_through := fun_mk (st := s_Beat_through) l_Beat_through co_Beat_through kp_Beat_through,
    m_Beat_nth := ⟨at_Beat_nth, fi_Beat_nth, kp_Beat_nth⟩,
    fn_Beat_nth := fun_mk (st := s_Beat_nth) l_Beat_nth co_Beat_nth kp_Beat_nth,
    m_BeatD_eqD := ⟨at_BeatD_eqD, fi_BeatD_eqD, kp_BeatD_eqD⟩,
    fn_BeatD_eqD := fun_mk (st := s_BeatD_eqD) l_BeatD_eqD co_BeatD_eqD kp_BeatD_eqD,
    o_Beat := ⟨at_BeatD_callD, fi_BeatD_callD, fm_BeatD_callD⟩,
    fn_BeatD_callD := fun_mk (st := s_BeatD_callD) l_BeatD_callD co_BeatD_callD kp_BeatD_callD,
    ia_Beat := ia_Beat,
    im_Beat := im_Beat,
    is_Beat := kit_self,
    ne_Beat := ne_Beat,
    nf_Beat := nf_Beat,
    nf_Beat_tuple := nf_Beat_tuple,
    nt_Beat_tuple := kit_noT ci_Beat ti_Beat sn_Beat_tuple,
    in_ := in0,
    it_ := it0,
    mg_BadBeat := PySem.W.mg_of X G a_BadBeat,
    mg_ModesError := PySem.W.mg_of X G a_ModesError,
    ks_BadBeat := kit_self,
    ks_ValueError := kit_ve suv_B,
    ec_BadBeat := ⟨ga_B, gg_B, ex_B, hd_B, cc_B, in0, it0, mr_B⟩,
    ox_BadBeat := ⟨⟨_, _, _, _, _, _, _, _, _, _, _, _, _, _, _, xl_B, rf_B⟩, sa_B, ex_B, ty_B, kp_B⟩,
    ic_BadBeat := in_B,
    it_BadBeat := ti_B,
    np_BadBeat := np_B,
    em_BadBeat := exm_ref bex_ME cix_ModesError tix_ModesError sux_ME,
    fn_BadBeatD_initD := fun_mk (st := s_BadBeatD_initD) l_BadBeatD_initD co_BadBeatD_initD kp_BadBeatD_initD,
    cr := ⟨_, _, _, _, _, _, _, _, rfl, l__law_refused_right⟩,
    cr_code := co__law_refused_right
  }
  refine ⟨PySem.W.fnOf "law" "law" (defArgs s_law) (defBody s_law) (defScope s_law) .none kV_law dc_law pm_law an_law cd_law ct_law, [(cR, PR)], spLaw K { f_is_whole := f_is_whole, d_is_whole := PySem.W.fnOf "is_whole" "is_whole" (defArgs s_is_whole) (defBody s_is_whole) (defScope s_is_whole) .none kV_is_whole dc_is_whole pm_is_whole an_is_whole cd_is_whole ct_is_whole, f_place_of := f_place_of, d_place_of := PySem.W.fnOf "place_of" "place_of" (defArgs s_place_of) (defBody s_place_of) (defScope s_place_of) .none kV_place_of dc_place_of pm_place_of an_place_of cd_place_of ct_place_of, f__law_pen := f__law_pen, d__law_pen := PySem.W.fnOf "_law_pen" "_law_pen" (defArgs s__law_pen) (defBody s__law_pen) (defScope s__law_pen) .none kV__law_pen dc__law_pen pm__law_pen an__law_pen cd__law_pen ct__law_pen, f__law_draw := f__law_draw, d__law_draw := PySem.W.fnOf "_law_draw" "_law_draw" (defArgs s__law_draw) (defBody s__law_draw) (defScope s__law_draw) .none kV__law_draw dc__law_draw pm__law_draw an__law_draw cd__law_draw ct__law_draw, f__law_pick := f__law_pick, d__law_pick := PySem.W.fnOf "_law_pick" "_law_pick" (defArgs s__law_pick) (defBody s__law_pick) (defScope s__law_pick) .none kV__law_pick dc__law_pick pm__law_pick an__law_pick cd__law_pick ct__law_pick, f__law_part := f__law_part, d__law_part := PySem.W.fnOf "_law_part" "_law_part" (defArgs s__law_part) (defBody s__law_part) (defScope s__law_part) .none kV__law_part dc__law_part pm__law_part an__law_part cd__law_part ct__law_part, f__law_refused_right := f__law_refused_right, d__law_refused_right := PySem.W.fnOf "_law_refused_right" "_law_refused_right" (defArgs s__law_refused_right) (defBody s__law_refused_right) (defScope s__law_refused_right) .none kV__law_refused_right dc__law_refused_right pm__law_refused_right an__law_refused_right (.ref cR) ct__law_refused_right, f__law_near_right := f__law_near_right, d__law_near_right := PySem.W.fnOf "_law_near_right" "_law_near_right" (defArgs s__law_near_right) (defBody s__law_near_right) (defScope s__law_near_right) .none kV__law_near_right dc__law_near_right pm__law_near_right an__law_near_right cd__law_near_right ct__law_near_right, f__law_far_right := f__law_far_right, d__law_far_right := PySem.W.fnOf "_law_far_right" "_law_far_right" (defArgs s__law_far_right) (defBody s__law_far_right) (defScope s__law_far_right) .none kV__law_far_right dc__law_far_right pm__law_far_right an__law_far_right cd__law_far_right ct__law_far_right, f_Beat := f_Beat, f_BeatD_initD := f_BeatD_initD, d_BeatD_initD := PySem.W.fnOf "__init__" "Beat.__init__" (defArgs s_BeatD_initD) (defBody s_BeatD_initD) (defScope s_BeatD_initD) .none kV_BeatD_initD dc_BeatD_initD pm_BeatD_initD an_BeatD_initD cd_BeatD_initD ct_BeatD_initD, f_Beat_lead := f_Beat_lead, d_Beat_lead := PySem.W.fnOf "lead" "Beat.lead" (defArgs s_Beat_lead) (defBody s_Beat_lead) (defScope s_Beat_lead) .none kV_Beat_lead dc_Beat_lead pm_Beat_lead an_Beat_lead cd_Beat_lead ct_Beat_lead, p_Beat_lead := p_Beat_lead, f_Beat_period := f_Beat_period, d_Beat_period := PySem.W.fnOf "period" "Beat.period" (defArgs s_Beat_period) (defBody s_Beat_period) (defScope s_Beat_period) .none kV_Beat_period dc_Beat_period pm_Beat_period an_Beat_period cd_Beat_period ct_Beat_period, p_Beat_period := p_Beat_period, f_Beat_answers := f_Beat_answers, d_Beat_answers := PySem.W.fnOf "answers" "Beat.answers" (defArgs s_Beat_answers) (defBody s_Beat_answers) (defScope s_Beat_answers) .none kV_Beat_answers dc_Beat_answers pm_Beat_answers an_Beat_answers cd_Beat_answers ct_Beat_answers, p_Beat_answers := p_Beat_answers, f_Beat_through := f_Beat_through, d_Beat_through := PySem.W.fnOf "through" "Beat.through" (defArgs s_Beat_through) (defBody s_Beat_through) (defScope s_Beat_through) .none kV_Beat_through dc_Beat_through pm_Beat_through an_Beat_through cd_Beat_through ct_Beat_through, f_Beat_nth := f_Beat_nth, d_Beat_nth := PySem.W.fnOf "nth" "Beat.nth" (defArgs s_Beat_nth) (defBody s_Beat_nth) (defScope s_Beat_nth) .none kV_Beat_nth dc_Beat_nth pm_Beat_nth an_Beat_nth cd_Beat_nth ct_Beat_nth, f_BeatD_eqD := f_BeatD_eqD, d_BeatD_eqD := PySem.W.fnOf "__eq__" "Beat.__eq__" (defArgs s_BeatD_eqD) (defBody s_BeatD_eqD) (defScope s_BeatD_eqD) .none kV_BeatD_eqD dc_BeatD_eqD pm_BeatD_eqD an_BeatD_eqD cd_BeatD_eqD ct_BeatD_eqD, f_BeatD_callD := f_BeatD_callD, d_BeatD_callD := PySem.W.fnOf "__call__" "Beat.__call__" (defArgs s_BeatD_callD) (defBody s_BeatD_callD) (defScope s_BeatD_callD) .none kV_BeatD_callD dc_BeatD_callD pm_BeatD_callD an_BeatD_callD cd_BeatD_callD ct_BeatD_callD, x_BadBeat := x_BadBeat, x_ModesError := x_ModesError, f_BadBeatD_initD := f_BadBeatD_initD, d_BadBeatD_initD := PySem.W.fnOf "__init__" "BadBeat.__init__" (defArgs s_BadBeatD_initD) (defBody s_BadBeatD_initD) (defScope s_BadBeatD_initD) .none kV_BadBeatD_initD dc_BadBeatD_initD pm_BadBeatD_initD an_BadBeatD_initD cd_BadBeatD_initD ct_BadBeatD_initD, cR := cR, PR := PR }, fun p hp => ?_, fun p hp => ?_, fun p hp => ?_, fun s v => .of_eq rfl, fun H b ns hl hT hS => ⟨b, ns, rfl, hS, hl, hT (cR, PR) (List.mem_singleton.mpr rfl), fun _ => rfl⟩, fun base _ _ TB => (ok_law T l_law co_law (TB (cR, PR) (List.mem_singleton.mpr rfl))).run callerA rfl ⟨rfl, by decide, by decide⟩⟩
  · rw [List.mem_singleton.mp hp]; exact tb_PR
  · rw [List.mem_singleton.mp hp]; exact kl_PR
  · rw [List.mem_singleton.mp hp]; exact ch_PR
end KF
open PySem PySem.W PyProof.Rows
set_option maxRecDepth 100000 in
set_option maxHeartbeats 0 in
theorem PySem.Challenge.cw_modesdown_k60_beats_made_holds : PySem.Challenge.rw_modesdown_k60_beats_made.Holds := by
  w_on; o_law; k_head; (case hw => w_witness2)
  k_fill
  refine KD.walk_tabs (x := "_law_script") rfl rfl (fun w h Y => PySem.W.km_in_of Y) ?F
  case F =>
    intro w mg fa h Y kIn G hmg
    refine' KF.all_mk kIn G hmg ?z_ValueError ?z_isinstance ?z_int ?z_bool ?z_tuple ?z_list ?z_len ?z_all ?z_sum ?z_divmod ?z_enumerate ?z_range ?z_abs ?z_repr ?a_is_whole ?l_is_whole ?co_is_whole ?kp_is_whole ?a_place_of ?l_place_of ?co_place_of ?kp_place_of ?a__law_pen ?l__law_pen ?co__law_pen ?kp__law_pen ?a__law_draw ?l__law_draw ?co__law_draw ?kp__law_draw ?a__law_pick ?l__law_pick ?co__law_pick ?kp__law_pick ?a__law_part ?l__law_part ?co__law_part ?kp__law_part ?a__law_refused_right ?l__law_refused_right ?co__law_refused_right ?kp__law_refused_right ?a__law_near_right ?l__law_near_right ?co__law_near_right ?kp__law_near_right ?a__law_far_right ?l__law_far_right ?co__law_far_right ?kp__law_far_right ?a_Beat ?pg_Beat ?hd_Beat ?po_Beat ?sa_Beat ?n_lead_Beat ?n_period_Beat ?n_answers_Beat ?at_BeatD_initD ?fi_BeatD_initD ?l_BeatD_initD ?co_BeatD_initD ?kp_BeatD_initD ?mk_Beat ?kc_Beat ?at_Beat_lead ?ge_Beat_lead ?ta_Beat_lead ?rc_Beat_lead ?l_Beat_lead ?co_Beat_lead ?kp_Beat_lead ?at_Beat_period ?ge_Beat_period ?ta_Beat_period ?rc_Beat_period ?l_Beat_period ?co_Beat_period ?kp_Beat_period ?at_Beat_answers ?ge_Beat_answers ?ta_Beat_answers ?rc_Beat_answers ?l_Beat_answers ?co_Beat_answers ?kp_Beat_answers ?at_Beat_through ?fi_Beat_through ?l_Beat_through ?co_Beat_through ?kp_Beat_through ?at_Beat_nth ?fi_Beat_nth ?l_Beat_nth ?co_Beat_nth ?kp_Beat_nth ?at_BeatD_eqD ?fi_BeatD_eqD ?l_BeatD_eqD ?co_BeatD_eqD ?kp_BeatD_eqD ?at_BeatD_callD ?fi_BeatD_callD ?fm_BeatD_callD ?l_BeatD_callD ?co_BeatD_callD ?kp_BeatD_callD ?ia_Beat ?im_Beat ?ne_Beat ?ci_Beat ?ti_Beat ?nf_Beat ?nf_Beat_tuple ?sn_Beat_tuple ?in0 ?it0 ?a_BadBeat ?a_ModesError ?xl_B ?rf_B ?sa_B ?ex_B ?ty_B ?kp_B ?ga_B ?gg_B ?hd_B ?cc_B ?mr_B ?np_B ?in_B ?ti_B ?l_BadBeatD_initD ?co_BadBeatD_initD ?kp_BadBeatD_initD ?cix_ModesError ?tix_ModesError ?suv_B ?bex_ME ?sux_ME ?a_law ?l_law ?co_law ?kp_law ?lc_PR ?v11_PR ?ch_PR ?kl_PR ?tb_PR
    (case z_ValueError => k_is)
    (case z_isinstance => k_is)
    (case z_int => k_is)
    (case z_bool => k_is)
    (case z_tuple => k_is)
    (case z_list => k_is)
    (case z_len => k_is)
    (case z_all => k_is)
    (case z_sum => k_is)
    (case z_divmod => k_is)
    (case z_enumerate => k_is)
    (case z_range => k_is)
    (case z_abs => k_is)
    (case z_repr => k_is)
    (case a_is_whole => k_is)
    (case l_is_whole => k_is)
    (case co_is_whole => k_is)
    (case kp_is_whole => k_is)
    (case a_place_of => k_is)
    (case l_place_of => k_is)
    (case co_place_of => k_is)
    (case kp_place_of => k_is)
    (case a__law_pen => k_is)
    (case l__law_pen => k_is)
    (case co__law_pen => k_is)
    (case kp__law_pen => k_is)
    (case a__law_draw => k_is)
    (case l__law_draw => k_is)
    (case co__law_draw => k_is)
    (case kp__law_draw => k_is)
    (case a__law_pick => k_is)
    (case l__law_pick => k_is)
    (case co__law_pick => k_is)
    (case kp__law_pick => k_is)
    (case a__law_part => k_is)
    (case l__law_part => k_is)
    (case co__law_part => k_is)
    (case kp__law_part => k_is)
    (case a__law_refused_right => k_is)
    (case l__law_refused_right => k_is)
    (case co__law_refused_right => k_is)
    (case kp__law_refused_right => k_is)
    (case a__law_near_right => k_is)
    (case l__law_near_right => k_is)
    (case co__law_near_right => k_is)
    (case kp__law_near_right => k_is)
    (case a__law_far_right => k_is)
    (case l__law_far_right => k_is)
    (case co__law_far_right => k_is)
    (case kp__law_far_right => k_is)
    (case a_Beat => k_is)
    (case pg_Beat => k_is)
    (case hd_Beat => k_is)
    (case po_Beat => k_is)
    (case sa_Beat => k_is)
    (case n_lead_Beat => k_is)
    (case n_period_Beat => k_is)
    (case n_answers_Beat => k_is)
    (case at_BeatD_initD => k_is)
    (case fi_BeatD_initD => k_is)
    (case l_BeatD_initD => k_is)
    (case co_BeatD_initD => k_is)
    (case kp_BeatD_initD => k_is)
    (case mk_Beat => k_is)
    (case kc_Beat => k_is)
    (case at_Beat_lead => k_is)
    (case ge_Beat_lead => k_is)
    (case ta_Beat_lead => k_is)
    (case rc_Beat_lead => k_is)
    (case l_Beat_lead => k_is)
    (case co_Beat_lead => k_is)
    (case kp_Beat_lead => k_is)
    (case at_Beat_period => k_is)
    (case ge_Beat_period => k_is)
    (case ta_Beat_period => k_is)
    (case rc_Beat_period => k_is)
    (case l_Beat_period => k_is)
    (case co_Beat_period => k_is)
    (case kp_Beat_period => k_is)
    (case at_Beat_answers => k_is)
    (case ge_Beat_answers => k_is)
    (case ta_Beat_answers => k_is)
    (case rc_Beat_answers => k_is)
    (case l_Beat_answers => k_is)
    (case co_Beat_answers => k_is)
    (case kp_Beat_answers => k_is)
    (case at_Beat_through => k_is)
    (case fi_Beat_through => k_is)
    (case l_Beat_through => k_is)
    (case co_Beat_through => k_is)
    (case kp_Beat_through => k_is)
    (case at_Beat_nth => k_is)
    (case fi_Beat_nth => k_is)
    (case l_Beat_nth => k_is)
    (case co_Beat_nth => k_is)
    (case kp_Beat_nth => k_is)
    (case at_BeatD_eqD => k_is)
    (case fi_BeatD_eqD => k_is)
    (case l_BeatD_eqD => k_is)
    (case co_BeatD_eqD => k_is)
    (case kp_BeatD_eqD => k_is)
    (case at_BeatD_callD => k_is)
    (case fi_BeatD_callD => k_is)
    (case fm_BeatD_callD => k_is)
    (case l_BeatD_callD => k_is)
    (case co_BeatD_callD => k_is)
    (case kp_BeatD_callD => k_is)
    (case ia_Beat => k_is)
    (case im_Beat => k_is)
    (case ne_Beat => k_is)
    (case ci_Beat => k_is)
    (case ti_Beat => k_is)
    (case nf_Beat => k_is)
    (case nf_Beat_tuple => k_is)
    (case sn_Beat_tuple => k_is)
    (case in0 => k_is)
    (case it0 => k_is)
    (case a_BadBeat => k_is)
    (case a_ModesError => k_is)
    (case xl_B => k_is)
    (case rf_B => decide +kernel)
    (case sa_B => k_is)
    (case ex_B => k_is)
    (case ty_B => k_is)
    (case kp_B => k_is)
    (case ga_B => k_is)
    (case gg_B => k_is)
    (case hd_B => k_is)
    (case cc_B => k_is)
    (case mr_B => k_is)
    (case np_B => k_is)
    (case in_B => k_is)
    (case ti_B => k_is)
    (case l_BadBeatD_initD => k_is)
    (case co_BadBeatD_initD => k_is)
    (case kp_BadBeatD_initD => k_is)
    (case cix_ModesError => k_is)
    (case tix_ModesError => k_is)
    (case suv_B => k_is)
    (case bex_ME => k_is)
    (case sux_ME => k_is)
    (case a_law => k_is)
    (case l_law => k_is)
    (case co_law => k_is)
    (case kp_law => k_is)
    (case lc_PR => k_is)
    (case v11_PR => rfl)
    (case ch_PR => kernel_rfl)
    (case kl_PR => first | k_is | kernel_rfl)
    (case tb_PR => exact PySem.W.km_tabs_of Y _ (by k_mem))
