import PyProof.Rows.All
import HandS.MethStar
import HandS.SlotsOwn
import HandS.Star
import HandS.More
import HandS.IsInst
import KE.KCallOwn
import KE.KxField
import HandS.FStr
import PyProof.Rows.StrIntSpec
import PyProof.FString3
import PyProof.FactsAll.int_2
import KE.KxWritten
import HandS.Lambda
import HandS.Codes
import HandS.Words
import HandS.EndTab
import HandS.EndBits
import HandS.NestedK
import KE.KNestM
import PyProof.ReprRoads
import Wide.All
import OpenK.AllK
import Wide.FinOn
import HandS.ForMost
import HandS.Property
import HandS.ClsMeth
import HandS.Conv
import HandS.Wide
import HandS.WideBits
import HandS.Flow
import HandS.Evl
import HandS.Zip
import HandS.Strs
import KE.GoesEnum
import HandS.ExcInit
import HandS.WordsExc
import HandS.ExcIs
import HandS.TupAny
import HandS.OwnEq
import HandS.Deep
import HandS.TupLen
import HandS.MakeKwOnly
import KE.KDictKeyed
import KE.KTupSum
import PyProof.SumAnyB
import PyProof.EnumMake
import PyProof.EqKinds
import KE.KExcIs
import HandS.NoneIn
import PyProof.ReprLen
import HandS.SetKeys
import PyProof.Rows.SetFrom
import PyProof.TupleIter
import HandS.Defaults
import HandS.Style

import PySem.Challenge.RW_modesdown_k35_lines_let

set_option Elab.async false
set_option linter.all false
set_option maxRecDepth 100000
set_option maxHeartbeats 4000000
namespace KD
open PySem PySem.Spec PyProof.Rows L2
section
open PySem.W PySem.Calls Builtin
variable {prog : Program} {w : World} {A : Around} {E : Value → Shared → Prop} {s : Shared} {K : Frag} {x C L f : Addr} {h₀ : Heap} {m : Str → Option Value} {ox : Obj} {od : Option Obj}
theorem bool_own {Q : Value → Shared → Prop} (F : Fr h₀ L s.heap m) (X₀ : K.In h₀) (I : InstAt s.heap x ox C od) (hs : findIn K (.ref C) "__bool__" = some (some (.ref f))) (hf : isFn K (.ref f) = true)
    (h : wpAny (model prog w) A.in1.in1 (call (.ref f) [.ref x]) (PySem.W.BoolBack fun b s' => Q (.bool b) s') E s) : wpAny (model prog w) A (call (.type "bool") [.ref x]) Q E s := by
  refine callType_codes (T := "bool") (Bi := Builtin.«object.__init__») (Q₁ := fun r s₁ => ∃ b, r = .bool b ∧ Q r s₁) PySem.F.called_bool (PySem.F.typeCall_bool_1 _) PySem.F.entry_object_init ?_ ?_
  · refine codeAny_of_tree ?_
    show wpAny _ A.in1.in1 (do checkBuiltinCall "bool.__new__" ⟨[.type "bool", .ref x], []⟩; again (.builtin "bool.__new__" ⟨[.type "bool", .ref x], []⟩)) _ _ s
    refine wpAny_bind (wpAny_of_eq (PySem.F.newCall_bool_1 _) (wpAny_pure ⟨plainId_quiet (by decide +kernel) _, codeAny_builtin PySem.F.entry_bool_new ?_⟩))
    rw [Around.under_plainId (by decide +kernel) _]
    unfold Builtin.«bool.__new__»
    refine wpAny_bind (m := isType _) (wpAny_pure ?_)
    refine wpAny_bind (wpAny_of_eq PySem.F.conv_sub_bool ?_)
    refine wpAny_bind (m := someArgs _ _ _ _) (wpAny_pure ?_)
    refine wpAny_bind (truthy_K F X₀ I hs hf (wpAny_mono h (fun r s₁ hr => ?_) fun _ _ y => y))
    cases r <;> first | exact hr.elim | exact wpAny_pure ⟨_, rfl, hr⟩
  · rintro obj s₁ ⟨b, rfl, hq⟩
    exact ⟨PySem.typeIs_bool _ _, PySem.F.args_object_init_2 _ _, object_init_meets PySem.F.called_bool.init.lookup PySem.F.called_bool.made (by decide) prog w A.in1 _ s₁ ⟨PySem.typeIs_bool _ _, rfl, hq⟩⟩
end
section
variable {X : Cx} {CX : CXT} {C g : Addr} {n : Nat} {sp : Sp} {E : XK}
/-- repr, len, bool of an own instance -/
def rReprOwn (C : Addr) (sp : Sp) (E : XK) : List V → Hp → VK → Prop := fun xs H Q => ∃ a dx fs, xs = [V.ref a] ∧ H a = some (.ins C dx fs) ∧ sp [.ref a] H (fun z H' => ∃ s, z = .str s ∧ Q z H') E
def rLenOwn (C : Addr) (sp : Sp) (E : XK) : List V → Hp → VK → Prop := fun xs H Q => ∃ a dx fs, xs = [V.ref a] ∧ H a = some (.ins C dx fs) ∧ sp [.ref a] H (fun z H' => ∃ n : Int, z = .int n ∧ 0 ≤ n ∧ n < 2 ^ 63 ∧ Q z H') E
def rBoolOwn (C : Addr) (sp : Sp) (E : XK) : List V → Hp → VK → Prop := fun xs H Q => ∃ a dx fs, xs = [V.ref a] ∧ H a = some (.ins C dx fs) ∧ sp [.ref a] H (fun z H' => ∃ b, z = .bl b ∧ Q z H') E
theorem call_reprOwn (hs : PySem.W.findIn X.K (.ref C) "__repr__" = some (some (.ref g))) (hf : PySem.W.isFn X.K (.ref g) = true) (F : FnR X.prog X.w X.K X.mg X.base CX n g sp) (hr : Room (n + 1) X.A) (hx : Passes CX X E) : CallR X (.builtin "repr") (rReprOwn C sp E) := by
  intro pins s σ H xs us Q I r start
  obtain ⟨a, dx, fs, rfl, hsl, q⟩ := start
  obtain ⟨u, rfl, ru⟩ := r.one
  obtain rfl : u = Value.ref a := ru
  obtain ⟨ox, od, J, _⟩ := StX.insC_at (X := X) I (.inr ⟨dx, fs, hsl⟩)
  have low : Room n X.A.in1 := Room.in1 hr
  obtain ⟨m, hF⟩ := I.fr
  refine PySem.W.repr_K low.units0 hF I.ok.mod.kin J hs hf (wpAny_mono (wpAny_call (SlX.run_at (us := [.ref a]) (ws := [.ref a]) F low I.env0.in1 hx I (.cons rfl .nil) q)) (fun w s' z => ?_) fun _ _ x => x)
  obtain ⟨z', H', I', rz, s2, ei, qz⟩ := z
  subst ei
  obtain ⟨t, e⟩ := (show ∃ t, w = Value.str s2 t from rz)
  cases e
  exact ⟨.str s2, H', I', ⟨t, rfl⟩, qz⟩
theorem call_lenOwn (hs : PySem.W.findIn X.K (.ref C) "__len__" = some (some (.ref g))) (hf : PySem.W.isFn X.K (.ref g) = true) (F : FnR X.prog X.w X.K X.mg X.base CX n g sp) (hr : Room (n + 1) X.A) (hx : Passes CX X E) : CallR X (.builtin "len") (rLenOwn C sp E) := by
  intro pins s σ H xs us Q I r start
  obtain ⟨a, dx, fs, rfl, hsl, q⟩ := start
  obtain ⟨u, rfl, ru⟩ := r.one
  obtain rfl : u = Value.ref a := ru
  obtain ⟨ox, od, J, _⟩ := StX.insC_at (X := X) I (.inr ⟨dx, fs, hsl⟩)
  have low : Room n X.A.in1 := Room.in1 hr
  obtain ⟨m, hF⟩ := I.fr
  refine PySem.W.len_K hF I.ok.mod.kin J hs hf (wpAny_mono (wpAny_call (SlX.run_at (us := [.ref a]) (ws := [.ref a]) F low I.env0.in1 hx I (.cons rfl .nil) q)) (fun w s' z => ?_) fun _ _ x => x)
  obtain ⟨z', H', I', rz, i, ei, h0, h1, qz⟩ := z
  subst ei
  obtain ⟨t, e⟩ := (show ∃ t, w = Value.int i t from rz)
  cases e
  exact ⟨⟨h0, h1⟩, .int i, H', I'.tok _, ⟨_, rfl⟩, qz⟩
theorem call_boolOwn (hs : PySem.W.findIn X.K (.ref C) "__bool__" = some (some (.ref g))) (hf : PySem.W.isFn X.K (.ref g) = true) (F : FnR X.prog X.w X.K X.mg X.base CX n g sp) (hr : Room (n + 2) X.A) (hx : Passes CX X E) : CallR X (.type "bool") (rBoolOwn C sp E) := by
  intro pins s σ H xs us Q I r start
  obtain ⟨a, dx, fs, rfl, hsl, q⟩ := start
  obtain ⟨u, rfl, ru⟩ := r.one
  obtain rfl : u = Value.ref a := ru
  obtain ⟨ox, od, J, _⟩ := StX.insC_at (X := X) I (.inr ⟨dx, fs, hsl⟩)
  have low : Room (n + 1) X.A.in1 := Room.in1 hr
  have hr2 : Room n X.A.in1.in1 := low.in1
  obtain ⟨m, hF⟩ := I.fr
  refine bool_own hF I.ok.mod.kin J hs hf (wpAny_mono (wpAny_call (SlX.run_at (us := [.ref a]) (ws := [.ref a]) F hr2 I.env0.in1.in1 hx I (.cons rfl .nil) q)) (fun w s' z => ?_) fun _ _ x => x)
  obtain ⟨z', H', I', rz, b, ei, qz⟩ := z
  subst ei
  obtain rfl : w = Value.bool b := rz
  exact ⟨.bl b, H', I', rfl, qz⟩
end
end KD
set_option Elab.async false
set_option linter.all false
set_option maxRecDepth 100000
set_option maxHeartbeats 4000000
namespace KD
open PySem PySem.Spec PyProof.Rows L2
section
open PySem.W Builtin Builtin.Str Builtin.Int Builtin.Float PySem.Calls
def spec8 : Str := "03o"
def f8 : FormatSpec := { fill := 48, align := 61, width := some 3, type := some 111 }
def octS (n : Nat) : Str := intField' f8 false [] ((Nat.toDigits 8 n).map fun c => (if (111 : Nat) == 88 then c.toUpper else c).toNat) [] 4
theorem f8_is : parseFormatSpec spec8.cps.toList "int" 62 = .ok f8 := by kernel_rfl
theorem f8_ty : f8.type = some 111 ∧ f8.precision.isSome = false ∧ f8.noNeg0 = false ∧ f8.alt = false ∧ (decide (f8.width.getD 0 > 100000)) = false := by decide +kernel
theorem s8_asc : ((spec8.cps.toList.drop 1).any (· ≥ 128) || (spec8.cps.getD 0 0 ≥ 128 && !([60, 62, 61, 94] : List Nat).contains (spec8.cps.getD 1 0))) = false := by decide +kernel
theorem s8_ne : (spec8.length == 0) = false := by decide +kernel
theorem oct_len : ∀ n : Nat, n < 512 → (octS n).length = 3 := by
  have h : ((List.range 512).all fun n => decide ((octS n).length = 3)) = true := by decide +kernel
  exact fun n hn => of_decide_eq_true (List.all_eq_true.mp h n (List.mem_range.mpr hn))
variable {prog : Program} {w : World} {A : Around} {E : Value → Shared → Prop} {s : Shared}
theorem field_oct {n : Nat} {t : Tok} {Q : Value → Shared → Prop} (hn : n < 512) (h : ∀ t' k, Q (.str (octS n) t') { s with toks := k }) : wpAny (model prog w) A (formatField (.int (n : Nat) t) spec8) Q E s := by
  obtain ⟨h1, h2, h3, h4, h5⟩ := f8_ty
  show wpAny _ _ (holding [.int (n : Nat) t] (pyFormat (.int (n : Nat) t) spec8)) Q E s
  refine wpAny_holding ?_
  unfold pyFormat
  refine wpAny_bind (wpAny_mkStr ?_ (by show 3 ≤ sizeLine; decide))
  refine wpAny_bind (m := callSpecial? (.int (n : Nat) t) (Str.ofString "__format__") [.str spec8 s.toks]) (wpAny_callSpecial?_slot (name := Str.ofString "__format__") (PySem.typeIs_int _ _ t) PySem.F.slot_int_format ?_)
  refine wpAny_call (codeAny_call_builtin PySem.F.slot_int_format.plain PySem.F.entry_int_format (PySem.F.slot_int_format.check _ _ _ _ _ _ _ _ (PySem.typeIs_int _ _ t) (PySem.F.args_int_format_2 _ _) ?_))
  unfold Builtin.«int.__format__»
  simp only [selfAndOne, noKeywords, Int.intOfSelf, asInt?, asStr?, List.isEmpty_nil, if_true, pure_bind, bind_pure, bind_assoc, s8_ne, s8_asc, Bool.false_eq_true, if_false,
    show (Value.str spec8 s.toks == Value.none) = false from rfl]
  refine wpAny_bind (wpAny_typeNameOf (T := "str") (PySem.typeIs_str _ _ _) (by decide) fun _ => ?_)
  refine wpAny_bind (wpAny_typeNameOfCut_int ?_)
  simp only [f8_is, h1, Option.getD_some]
  rw [if_pos (by decide)]
  obtain ⟨f, hf⟩ : ∃ f, f = f8 := ⟨_, rfl⟩
  rw [← hf] at h2 h3 h4 h5 ⊢
  show wpAny _ _ (if _ then _ else _) _ _ _
  rw [if_neg (by rw [h2]; decide)]
  show wpAny _ _ (if _ then _ else _) _ _ _
  rw [if_neg (by rw [h3]; decide)]
  show wpAny _ _ (if _ then _ else _) _ _ _
  rw [if_neg (by decide)]
  show wpAny _ _ (if _ then _ else _) _ _ _
  rw [if_neg (by decide)]
  show wpAny _ _ (if _ then _ else _) _ _ _
  rw [if_neg (of_decide_eq_false h5)]
  show wpAny _ _ (retStr _) _ _ _
  subst hf
  refine KXf.ret_text (T := octS n) ?_ ?_ fun t' k => ?_
  · rw [decide_eq_false (show ¬ (n : Int) < 0 by omega)]
    rfl
  · rw [decide_eq_false (show ¬ (n : Int) < 0 by omega)]
    exact Nat.le_trans (Nat.le_of_eq (oct_len n hn)) (by decide)
  · exact wpAny_bind (wpAny_isInstance (PySem.typeIs_str _ _ _) isSubtype_str_str (wpAny_pure (h _ _)))
end
section
variable {X : Cx}
def tOct (te : TE) : TE := fun σ H Q => te σ H fun x H1 => ∃ n : Nat, x = .int (n : Nat) ∧ n < 512 ∧ Q (.str (octS n)) H1
theorem pe_fmt8 {e : Expr} {te : TE} {pos p1 p2 : Pos} {k : Nat} (he : PE X e te) : PE X (.FormattedValue e (-1) (some (.JoinedStr [.Constant (.str "03o") k p1] p2)) pos) (tOct te) := by
  refine ⟨fun pins s σ H Q I h => ?_⟩
  refine wpAny_FormattedValue_spec (thn (he.run pins s σ H _ I h) fun v s1 ⟨x, H1, I1, r1, n, ex, hn, q⟩ => ?_)
  subst ex
  obtain ⟨t, rfl⟩ := r1
  have hs : PE X (.JoinedStr [.Constant (.str "03o") k p1] p2) (tC (.str "03o")) := pe_joined1 pe_str
  refine thn (hs.run pins s1 σ H1 (fun y H2 => y = .str "03o" ∧ H2 = H1) I1 ⟨rfl, rfl⟩) fun r s2 ⟨y, H2, I2, ry, ey, eH⟩ => ?_
  subst ey eH
  obtain ⟨t2, rfl⟩ := ry
  exact ⟨_, t2, rfl, field_oct hn fun t' k => ⟨.str (octS n), H2, I2.tok _, ⟨_, rfl⟩, q⟩⟩
/-- x op y, x an own instance -/
def rOwnB (K : PySem.W.Frag) (C : Addr) (sp : Sp) (E : XK) : R2 := fun x y H Q => ∃ (p dx : Addr) (fs : List (Str × V)) (t : Value), x = .ref p ∧ H p = some (.ins C dx fs) ∧ TyX K H y t ∧ PySem.W.notFirst K C t = true ∧ sp [x, y] H Q E
theorem op_ownB {CX : CXT} {C g : Addr} {n : Nat} {sp : Sp} {E : XK} {op : CmpOp} (hop : ∀ a b, compareOp op a b = richCompare op a b) (hs : PySem.W.findIn X.K (.ref C) (cmpInfo op).2.1 = some (some (.ref g))) (hf : PySem.W.isFn X.K (.ref g) = true)
    (F : FnR X.prog X.w X.K X.mg X.base CX n g sp) (room : Room n X.A) (hx : Passes CX X E) : OpR X (compareOp op) (rOwnB X.K C sp E) := by
  intro pins s σ H x y v u Q I rx ry told
  obtain ⟨p, dx, fs, t, rfl, hp, ty, nf, want⟩ := told
  obtain rfl : v = Value.ref p := rx
  obtain ⟨o1, d1, J1, _⟩ := StX.insC_at (X := X) I (.inr ⟨dx, fs, hp⟩)
  obtain ⟨Pp, Z, hpp, _⟩ := kit_of I ry ty
  obtain ⟨m, hF⟩ := I.fr
  rw [hop]
  refine PySem.W.cmp_K (op := op) (tb := t) room.units0 hF I.ok.mod.kin J1 (Z.ty _ _ I.kIn hpp) nf hs hf (wpAny_mono (wpAny_call (run_fnR (us := [.ref p, u]) (vs := [.ref p, y]) F room hx I (.cons rfl (.cons ry .nil)) want)) (fun r s' got => ?_) fun _ _ same => same)
  obtain ⟨z, H', I', rz, end_⟩ := got
  exact SlX.cmpback rz ⟨z, H', I', rz, end_⟩
theorem mt_scount : MtR X "str.count" (fun x xs H Q => ∃ a b, x = .str a ∧ xs = [.str b] ∧ Q (.int (Txt.count a b)) H) := by
  intro pins s σ H x xs v us Q I rx rxs h
  obtain ⟨a, b, rfl, rfl, q⟩ := h
  obtain ⟨t, rfl⟩ := rx
  obtain ⟨u, rfl, ru⟩ := rxs.one
  obtain ⟨t2, rfl⟩ := ru
  exact PySem.W.KXw.count rfl fun t' k => ⟨.int _, H, I.tok _, ⟨_, rfl⟩, q⟩
end
end KD
set_option Elab.async false
set_option linter.all false
set_option maxRecDepth 100000
set_option maxHeartbeats 4000000
namespace KD
open PySem PySem.Spec PyProof.Rows L2 LamX
/-! ### defs that are run where no object is being shown -/
def RunAt (P : Program) (w : World) (K : PySem.W.Frag) (mg : Str → Option Value) (base : Heap) (A : Around) (f : Addr) (fd : FuncData) (ps : List Str) (sp : Sp) : Prop :=
  ∀ (outer : List Env) (s : Shared) (H : Hp) (args : Args) (us : List Value) (vs : List V) (Q : VK) (E : XK), Env0 P w K mg base A outer s H → BindsTo s fd args (ps.zip us) → Vals vs us → sp vs H Q E →
    codeAny (model P w) A (.call (.ref f) args) (CR CX0 outer P w H s Q E) s
structure FnG (P : Program) (w : World) (K : PySem.W.Frag) (mg : Str → Option Value) (base : Heap) (k : Nat) (f : Addr) (fd : FuncData) (ps : List Str) (sp : Sp) : Prop where
  len : ∀ vs H Q E, sp vs H Q E → vs.length = ps.length
  run : ∀ A : Around, A.guards = some [] → Room k A → RunAt P w K mg base A f fd ps sp
theorem fnG_of {P : Program} {w : World} {K : PySem.W.Frag} {mg : Str → Option Value} {base : Heap} {k : Nat} {x qual : Str} {st : Stmt} {f : Addr} {oc kV doc pm cdv ct : Value} {an od : Option Addr} {osl : Array (Option Value)} {N ps : List Str} {sp : Sp}
    (at_ : K.lookup f = some ⟨oc, od, .func (PySem.W.fnOf x qual (defArgs st) (defBody st) (defScope st) .none kV doc pm an cdv ct), osl⟩) (code : PySem.W.codeIn K cdv qual = true) (S : FnScope N ps (defScope st)) (len : ∀ vs H Q E, sp vs H Q E → vs.length = ps.length)
    (body : ∀ (A : Around) (outer : List Env) (s : Shared) (H : Hp) (vs : List V) (Q : VK) (E : XK), A.guards = some [] → Room k (A.deeper (envOfC qual (defScope st) s.heap.objs.size f cdv)) → sp vs H Q E →
      ∃ t, PSs (cxOf CX0 P w K mg base N qual (defScope st) f cdv A outer s H E).nox (defBody st) t ∧ t { nx := fun _ H' => Q .non H', rt := Q } (start N vs) H) :
    FnG P w K mg base (k + 1) f (PySem.W.fnOf x qual (defArgs st) (defBody st) (defScope st) .none kV doc pm an cdv ct) ps sp := by
  refine ⟨len, fun A gd room outer s H args us vs Q E e0 bind vals want => ?_⟩
  have many := len _ _ _ _ want
  have inK : K.In s.heap := e0.mod.kin.keeps fun b o q => (e0.bs b o q).1
  have free : s.heap.NoLimit := e0.mod.nolimit.keeps fun b o q => (e0.bs b o q).1
  have kinds : ∀ y ∈ ps.zip us, (defScope st).names.lookup y.1 = some .local ∨ ((defScope st).names.lookup y.1 = some .cell ∧ ((cellsFrom (s.heap.objs.size + 1) (defScope st).names []).lookup y.1).isSome = true) := fun y hy =>
    (S.par y.1 (List.of_mem_zip hy).1).imp id fun q => ⟨q, PySem.W.cellsFrom_some _ _ _ (.inl q)⟩
  refine codeAny_call_function room.depth (inK _ _ at_) rfl S.co S.gen rfl (PySem.W.codeRec_of inK code) (bind _ _ _ _ ?_)
  refine wpAny_newFunctionEnv_cells S.kind kinds fun env he s1 call => ?_
  subst he
  obtain ⟨t, does, reads⟩ := body A outer s H vs Q E gd (room.deeper _) want
  refine ⟨free.keeps call.toInCall.keep, codeAny_func (wpAny_mono (does.nox.run [] s1 (start N vs) H _ (inv_start S room.hd e0 many vals call) reads) (fun fl s' ends => ?_) fun _ _ q => q)⟩
  cases fl with
  | ret u => exact let ⟨v, σ', H', J, rv, q⟩ := ends; ⟨v, H', J.os, J.bare, J.base, J.hok, rv, q⟩
  | next => exact let ⟨σ', H', J, q⟩ := ends; ⟨.non, H', J.os, J.bare, J.base, J.hok, rfl, q⟩
  | brk => exact let ⟨_, _, _, q⟩ := ends; False.elim q
  | cont => exact let ⟨_, _, _, q⟩ := ends; False.elim q
section
variable {X : Cx} {k : Nat} {f : Addr} {fd : FuncData} {ps : List Str} {sp : Sp} {E : XK} {x : Str} {e : Expr} {es : List Expr} {t : TA} {p pos : Pos}
/-- a call of such a def, where no object is being shown -/
theorem pe_callG (F : FnG X.prog X.w X.K X.mg X.base k f fd ps sp) (gd : X.A.guards = some []) (room : Room k X.A) (hg : Gl X x) (hm : X.mg x = some (.ref f)) (kp : PySem.W.keepIn X.K (.ref f) = true) (hb : Binds X.K fd ps [])
    (ha : PA X (e :: es) t) (nodb : (x == ("__debug__" : Str)) = false := by decide) (flat : starEach (e :: es) X.env = (false, eval e X.env) :: starEach es X.env := by rfl) (plain : (backTo pos (starEach es X.env)).any (·.1) = false := by rfl) :
    PE X (.Call (.Name x p) (e :: es) [] pos) (tCall sp [] E t) := by
  refine ⟨fun pins s σ H Q I h => ?_⟩
  refine wpAny_Call_Name_kw (ld_glob I hg hm ?_ nodb)
  refine PySem.W.callWith_K (h₀ := X.base) I.ok.mod.kin kp (thn (ha.run pos pins s σ H _ I h) fun us s1 ⟨vs, H1, J, r, q⟩ => ⟨J.kIn, ?_⟩) flat plain
  have q : sp vs H1 Q E := by rw [← List.append_nil vs]; exact q
  have many : us.length = ps.length := by rw [← r.length]; exact F.len _ _ _ _ q
  have bind := hb s1 us J.kIn (by rw [List.append_nil]; exact many)
  rw [List.append_nil] at bind
  refine wpAny_call (codeAny_mono (F.run X.A gd room X.stack s1 H1 ⟨us, []⟩ us vs Q E J.env0 bind r q) fun r s' got => ?_)
  match r, got with
  | .error _, got => exact False.elim got
  | .ok (.ret _), got => exact J.after got
  | .ok .next, got => exact False.elim got
  | .ok .brk, got => exact False.elim got
  | .ok .cont, got => exact False.elim got
/-! repr of what can be read, where no object is being shown -/
inductive RepV (K : PySem.W.Frag) (H : Hp) : V → Str → Prop
  | int {i : Int} (h : i.natAbs.log2 < 1920) : RepV K H (.int i) (toString i)
  | non : RepV K H .non "None"
  | bl (b : Bool) : RepV K H (.bl b) (if b then "True" else "False")
  | str {z : Str} (h : (reprText z).length ≤ sizeLine) : RepV K H (.str z) (reprText z)
  | obj {p : Addr} {d : PyData} (hd : Dp K H (.ref p) d) (h1 : d.showable = true) (h2 : d.hasDict = false) (h3 : d.depth ≤ 60) (h4 : d.shown.length ≤ sizeLine) : RepV K H (.ref p) d.shown
def rReprV (K : PySem.W.Frag) : List V → Hp → VK → Prop := fun xs H Q => ∃ (x : V) (s : Str), xs = [x] ∧ RepV K H x s ∧ Q (.str s) H
theorem call_reprV (gd : X.A.guards = some []) (hu : X.A.units + 64 < cLine) : CallR X (.builtin "repr") (rReprV X.K) := by
  intro pins s σ H xs us Q I r start
  obtain ⟨v, z, rfl, rep, q⟩ := start
  obtain ⟨u, rfl, ru⟩ := r.one
  cases rep with
  | int h =>
    obtain ⟨t, rfl⟩ := ru
    exact PySem.P.repr_of_int h ⟨.str _, H, I.tok _, ⟨_, rfl⟩, q⟩
  | non =>
    obtain rfl : u = Value.none := ru
    exact PySem.P.repr_of_none ⟨.str _, H, I.tok _, ⟨_, rfl⟩, q⟩
  | bl b =>
    obtain rfl : u = Value.bool b := ru
    exact PySem.P.repr_of_bool ⟨.str _, H, I.tok _, ⟨_, rfl⟩, q⟩
  | str h =>
    obtain ⟨t, rfl⟩ := ru
    exact PySem.P.repr_of_str ⟨.str _, H, I.tok _, ⟨_, rfl⟩, q⟩ h
  | @obj p d hd h1 h2 h3 h4 =>
    obtain ⟨as, reads⟩ := Dp.reads I d (.ref p) u hd ru
    obtain rfl : u = Value.ref p := ru
    exact repr_of_reads' reads h1 (fun h => by rw [h2] at h; cases h) gd (by omega) (fun _ _ e => e) (fun g t tk rest => ⟨.str d.shown, H, I.kept (t' := tk) rest, ⟨t, rfl⟩, q⟩) h4
end
/-! ### a law with lambdas, run at the top alone -/
def tab0 : Obj := { cls := .none, data := .fields #[] }
def fz (vs : List Value) (ns : List Int) : HO := .frz { cls := .type "list", data := .seq vs.toArray } (.lst (ns.map V.int))
/-- what the law is told: the empty tables, and the script, if it is none of the written objects -/
structure Told0 (P : Program) (w : World) (K : PySem.W.Frag) (h : Heap) (a : Addr) (ns : List Int) (Ts : List Addr) (H : Hp) : Prop where
  tabs : ∀ b ∈ Ts, H b = some (.tbl #[])
  only : ∀ b, b ∉ Ts → H b = none ∨ ∃ ob xs, H b = some (.frz ob (.lst xs))
  seq : SqL K H a (ns.map V.int)
  hok : HOk P w H h
  here : ∀ b, H b ≠ none → b = a ∨ b ∈ Ts
  lone : H a ≠ none → K.lookup a = none
theorem told0 {P : Program} {w : World} {K : PySem.W.Frag} {h : Heap} {a : Addr} {vs : List Value} {ns : List Int} {Ts : List Addr} (inK : K.In h) (ha : h.get? a = some { cls := .type "list", data := .seq vs.toArray }) (hi : IntsAre vs ns) (hl : ns.length ≤ sizeLine) (tb : ∀ b ∈ Ts, h.get? b = some tab0) : ∃ H : Hp, Told0 P w K h a ns Ts H := by
  have rv := vals_ints hi
  have off : a ∉ Ts := fun z => by
    have q := (tb a z).symm.trans ha
    exact nomatch congrArg Obj.data (Option.some.inj q)
  cases hk : K.lookup a with
  | some o =>
    obtain rfl : o = { cls := .type "list", data := .seq vs.toArray } := Option.some.inj ((inK a o hk).symm.trans ha)
    refine ⟨fun b => if b ∈ Ts then some (.tbl #[]) else none, fun b m => if_pos m, fun b m => .inl (if_neg m), .inr ⟨_, vs.toArray, _, hk, rfl, rfl, rfl, by rw [List.size_toArray, hi.length]; exact hl, by simpa using rv⟩, fun b u z => ?_, fun b z => .inr (Classical.byContradiction fun n => z (if_neg n)), fun z => absurd (if_neg off) z⟩
    by_cases m : b ∈ Ts
    · obtain rfl : HO.tbl #[] = u := Option.some.inj ((if_pos m).symm.trans z)
      exact tb b m
    · exact nomatch (if_neg m).symm.trans z
  | none =>
    have ifa : (if a ∈ Ts then some (HO.tbl #[]) else if a = a then some (fz vs ns) else none) = some (fz vs ns) := (if_neg off).trans (if_pos rfl)
    refine ⟨fun b => if b ∈ Ts then some (.tbl #[]) else if b = a then some (fz vs ns) else none, fun b m => if_pos m, fun b m => ?_, .inl (.inr ⟨_, ifa⟩), fun b u z => ?_, fun b z => ?_, fun _ => hk⟩
    · by_cases e : b = a
      · exact .inr ⟨_, _, (if_neg m).trans (if_pos e)⟩
      · exact .inl ((if_neg m).trans (if_neg e))
    · by_cases m : b ∈ Ts
      · obtain rfl : HO.tbl #[] = u := Option.some.inj ((if_pos m).symm.trans z)
        exact tb b m
      · have z2 := (if_neg m).symm.trans z
        by_cases e : b = a
        · obtain rfl : fz vs ns = u := Option.some.inj ((if_pos e).symm.trans z2)
          have few : (ns.map V.int).length ≤ sizeLine := by rw [List.length_map]; exact hl
          rw [e]
          exact ⟨ha, few, vs, _, rv, ha⟩
        · exact nomatch (if_neg e).symm.trans z2
    · by_cases m : b ∈ Ts
      · exact .inr m
      · by_cases e : b = a
        · exact .inl e
        · exact absurd ((if_neg m).trans (if_neg e)) z
theorem top_tabs {P : Program} {w : World} {K : PySem.W.Frag} {mg mb : Str → Option Value} {fa a : Addr} {fd : FuncData} {x : Str} {sp : Sp} {s₁ : Shared} {vs : List Value} {ns : List Int} {cs : List (Addr × Addr)} (inK : K.In s₁.heap) (names : s₁.heap.Ns mainGlobals mg) (hb : s₁.heap.Ns builtinsNs mb)
    (boot : ∀ x : Str, x ≠ "__name__" → mb x = bootBuiltins x) (free : s₁.heap.NoLimit) (young : s₁.gens = #[]) (ha : s₁.heap.get? a = some { cls := .type "list", data := .seq vs.toArray }) (hi : IntsAre vs ns) (hl : ns.length ≤ sizeLine)
    (tb : ∀ p ∈ cs, s₁.heap.get? p.2 = some tab0) (away : ∀ p ∈ cs, K.lookup p.2 = none) (hd : ∀ p ∈ cs, PySem.W.codeHdIn K p.1 p.2 = true)
    (main : ∃ (bm : Addr) (ob : Obj), mg "__builtins__" = some (.ref bm) ∧ bm ≠ builtinsNs ∧ s₁.heap.get? bm = some ob ∧ ob.cls = .type "module" ∧ ob.dict = some builtinsNs ∧ ob.data = .plain)
    (F : ∀ base : Heap, K.In base → base.Ns mainGlobals mg → (∀ p ∈ cs, TabB base mg p.1 p.2) → RunAt P w K mg base callerA fa fd [x] sp) (bind : ∀ (s : Shared) (u : Value), BindsTo s fd ⟨[u], []⟩ [(x, u)])
    (want : ∀ H : Hp, (∀ p ∈ cs, H p.2 = some (.tbl #[])) → SqL K H a (ns.map V.int) → sp [.ref a] H (fun v _ => v = .bl true) fun _ _ _ => False) :
    codeAny (model P w) callerA (.call (.ref fa) ⟨[.ref a], []⟩) (fun r s' => r = .ok (.ret (.bool true)) ∧ OldK s₁.heap s'.heap ∧ s'.os = s₁.os ∧ AllBare s'.gens) s₁ := by
  have tb' : ∀ b ∈ cs.map (·.2), s₁.heap.get? b = some tab0 := fun b m => by
    obtain ⟨p, hp, rfl⟩ := List.mem_map.mp m
    exact tb p hp
  obtain ⟨H, told⟩ := told0 (P := P) (w := w) inK ha hi hl tb'
  have in_ : ∀ p ∈ cs, p.2 ∈ cs.map (·.2) := fun p hp => List.mem_map.mpr ⟨p, hp, rfl⟩
  -- what is neither a list nor a table stays in the base
  have out : ∀ {b : Addr} {o : Obj}, s₁.heap.get? b = some o → (∀ it n, o.data ≠ .seq it n) → o.data ≠ .fields #[] → (hidT s₁.heap H).get? b = some o := fun {b o} g n1 n2 => hidT_get g (Classical.byContradiction fun z => by
    rcases told.here b z with rfl | m
    · rw [ha] at g
      cases g
      exact n1 _ _ rfl
    · rw [tb' b m] at g
      cases g
      exact n2 rfl)
  have ns' : ∀ {b : Addr} {m : Str → Option Value}, s₁.heap.Ns b m → (hidT s₁.heap H).Ns b m := fun ⟨o, es, ep, g, d, r⟩ => ⟨o, es, ep, out g (fun _ _ z => nomatch d.symm.trans z) (fun z => nomatch d.symm.trans z), d, r⟩
  have inB : K.In (hidT s₁.heap H) := fun b o q => hidT_get (inK b o q) (Classical.byContradiction fun z => by
    rcases told.here b z with rfl | m
    · rw [told.lone z] at q
      cases q
    · obtain ⟨p, hp, rfl⟩ := List.mem_map.mp m
      rw [away p hp] at q
      cases q)
  have free' : (hidT s₁.heap H).NoLimit := let ⟨mc, h1, h2⟩ := free; ⟨mc, ns' h1, h2⟩
  have glob : ∀ {b : Addr} {o : Obj}, s₁.heap.get? b = some o → (∀ es n, o.data ≠ .dict es n) → mainGlobals ≠ b := fun g n z => by
    obtain ⟨o, es, ep, g2, d, _⟩ := names
    rw [z, g] at g2
    cases g2
    exact n _ _ d
  have tabs : ∀ p ∈ cs, TabB (hidT s₁.heap H) mg p.1 p.2 := fun p hp => by
    obtain ⟨bm, ob, m1, m2, m3, m4, m5, m6⟩ := main
    refine ⟨PySem.W.codeHd_of_K inB (hd p hp), ⟨bm, ob, m1, m2, (glob m3 fun _ _ z => nomatch m6.symm.trans z).symm, fun z => ?_, out m3 (fun _ _ z => nomatch m6.symm.trans z) (fun z => nomatch m6.symm.trans z), m4, m5, m6⟩, glob (tb p hp) fun _ _ z => nomatch z⟩
    rw [z, tb p hp] at m3
    cases m3
    cases m6
  have e0 : Env0 P w K mg (hidT s₁.heap H) callerA [] s₁ H := ⟨rfl, ⟨inB, ns' names, ⟨mb, ns' hb, boot⟩, free'⟩, fun b o q => of_hidT q, Nat.le_of_eq (hidT_size _ _), trivial, fun b m => absurd (show b ∈ ([] : List Addr) from m) List.not_mem_nil, told.hok, .of_eq young⟩
  refine codeAny_mono (F _ inB (ns' names) tabs [] s₁ H ⟨[.ref a], []⟩ [.ref a] [.ref a] _ _ e0 (bind s₁ (.ref a)) (.cons rfl .nil) (want H (fun p hp => told.tabs _ (in_ p hp)) told.seq)) fun r s' got => ?_
  match r, got with
  | .error e, got => exact False.elim got
  | .ok .next, got => exact False.elim got
  | .ok .brk, got => exact False.elim got
  | .ok .cont, got => exact False.elim got
  | .ok (.ret u), ⟨v, H', os, bare, un, hok', rv, q⟩ =>
    obtain rfl : v = .bl true := q
    obtain rfl : u = Value.bool true := rv
    have grew : ∀ p ∈ cs, ∃ more : Array Value, s'.heap.get? p.2 = some { cls := .none, data := .fields more } := fun p hp =>
      let ⟨more, z⟩ := un.tbls p.2 #[] (told.tabs _ (in_ p hp)); ⟨_, hok' p.2 _ z⟩
    have same : ∀ b o, b ∉ cs.map (·.2) → s₁.heap.get? b = some o → s'.heap.get? b = some o := fun b o n g => by
      rcases told.only b n with z | ⟨ob, xs, z⟩
      · exact un.keep b o g z (fun m => absurd (show b ∈ ([] : List Addr) from m) List.not_mem_nil) List.not_mem_nil
      · obtain ⟨e1, _⟩ := told.hok b _ z
        obtain ⟨e2, _⟩ := hok' b _ (un.frzs b ob _ z)
        rw [g] at e1
        cases e1
        exact e2
    refine ⟨rfl, ⟨fun b o g => ?_, fun b o g => ?_⟩, os, bare⟩
    · by_cases m : b ∈ cs.map (·.2)
      · obtain ⟨p, hp, rfl⟩ := List.mem_map.mp m
        obtain ⟨more, gm⟩ := grew p hp
        have hc := PySem.W.codeHd_of_K inK (hd p hp)
        obtain rfl : tab0 = o := Option.some.inj ((tb p hp).symm.trans g)
        exact .inr (.inl ⟨(hc.tab g).isCodeTable, rfl, #[], more, rfl, by rw [gm]; congr; exact (Array.empty_append).symm⟩)
      · exact .inl (same b o m g)
    · by_cases m : b ∈ cs.map (·.2)
      · obtain ⟨p, hp, rfl⟩ := List.mem_map.mp m
        obtain ⟨more, gm⟩ := grew p hp
        exact ⟨_, gm⟩
      · exact ⟨o, same b o m g⟩
def LawTop (l : PySem.W.OpenLaw) (w : World) (K : PySem.W.Frag) (x : Str) (mg : Str → Option Value) (fa : Addr) (h : Heap) : Prop :=
  ∃ (fd : FuncData) (cs : List (Addr × Addr)) (sp : Sp), (∀ p ∈ cs, h.get? p.2 = some tab0) ∧ (∀ p ∈ cs, K.lookup p.2 = none) ∧ (∀ p ∈ cs, PySem.W.codeHdIn K p.1 p.2 = true) ∧ (∀ (s : Shared) (u : Value), BindsTo s fd ⟨[u], []⟩ [(x, u)]) ∧
    (∀ (H : Hp) (a : Addr) (ns : List Int), ns.length ≤ 63 → (∀ p ∈ cs, H p.2 = some (.tbl #[])) → SqL K H a (ns.map V.int) → sp [.ref a] H (fun v _ => v = .bl true) fun _ _ _ => False) ∧
    ∀ base : Heap, K.In base → base.Ns mainGlobals mg → (∀ p ∈ cs, TabB base mg p.1 p.2) → RunAt l.prog w K mg base callerA fa fd [x] sp
theorem walk_tabs {l : PySem.W.OpenLaw} {q : Program} {loose : List Str} {XP : (Str → Option Value) → Heap → Prop} {YP : World → Heap → Prop} {d : DefRec} {K : Params → PySem.W.Frag} {x : Str} (many : l.most = some 63) (plain : d.params.defaults = []) (inK : ∀ (w : World) (h : Heap), YP w h → (K w.params).In h)
    (F : ∀ (w : World) (mg : Str → Option Value) (fa : Addr) (h : Heap), YP w h → (K w.params).In h → h.Ns mainGlobals mg → mg d.name = some (.ref fa) → LawTop l w (K w.params) x mg fa h) :
    PySem.W.WalkO q loose XP YP l.row.toRowW d [] (fun f vs => PySem.call f vs) :=
  Att.attach_callB many plain fun w s₀ s₁ mg mb fa o pm cd doc a vs ns G Y ho hd hcd hmg hobj hints hlen _ hg => by
    obtain ⟨fd, cs, sp, h1, h2, h3, h4, h5, h6⟩ := F w mg fa _ Y (inK w _ Y) G.T.g hmg
    exact top_tabs (inK w _ Y) G.T.g G.T.b G.T.builtins G.T.nolimit hg hobj hints (Nat.le_trans hlen (by decide)) h1 h2 h3 G.T.bmain h6 h4 fun H tb seq => h5 H a ns hlen tb seq
end KD
set_option Elab.async false
set_option linter.all false
set_option maxRecDepth 100000
set_option maxHeartbeats 4000000
namespace KF
/-! ### the mathematics of a beat: L comings ahead, then again and again P of them -/
def place (L P i : Nat) : Nat := if i < L then i else L + (i - L) % P
def goesB (L P : Nat) (as : List Bool) (i : Nat) : Bool := as.getD (place L P i) false
def upTo (f : Nat → Bool) (c : Nat) : Nat := ((List.range c).filter f).length
def thr (L P : Nat) (as : List Bool) (c : Nat) : Nat := upTo (goesB L P as) c
def tot (L P : Nat) (as : List Bool) : Nat := thr L P as (L + P)
def cnt (as : List Bool) : Nat := (as.filter id).length
def each (L : Nat) (as : List Bool) : Nat := cnt (as.drop L)
theorem upTo_succ (f : Nat → Bool) (c : Nat) : upTo f (c + 1) = upTo f c + (if f c = true then 1 else 0) := by
  unfold upTo
  rw [List.range_succ, List.filter_append, List.length_append, List.filter_cons]
  split <;> rfl
theorem upTo_mono (f : Nat → Bool) {c d : Nat} (h : c ≤ d) : upTo f c ≤ upTo f d := by
  induction h with
  | refl => exact Nat.le_refl _
  | step _ ih =>
    rw [upTo_succ]
    omega
theorem upTo_le (f : Nat → Bool) (c : Nat) : upTo f c ≤ c := by
  have h := List.length_filter_le f (List.range c)
  rw [List.length_range] at h
  exact h
theorem upTo_inj (f : Nat → Bool) {c d : Nat} (hc : f c = true) (hd : f d = true) (h : upTo f (c + 1) = upTo f (d + 1)) : c = d := by
  have sc := upTo_succ f c
  have sd := upTo_succ f d
  rw [if_pos hc] at sc
  rw [if_pos hd] at sd
  rcases Nat.lt_trichotomy c d with l | e | l
  · have := upTo_mono f (show c + 1 ≤ d from l)
    omega
  · exact e
  · have := upTo_mono f (show d + 1 ≤ c from l)
    omega
theorem upTo_congr {f g : Nat → Bool} : ∀ {c : Nat}, (∀ i, i < c → f i = g i) → upTo f c = upTo g c
  | 0, _ => rfl
  | c + 1, h => by rw [upTo_succ, upTo_succ, upTo_congr (fun i hi => h i (Nat.lt_succ_of_lt hi)), h c (Nat.lt_succ_self c)]
theorem filter_get (f : Nat → Bool) : ∀ (n k c : Nat), ((List.range n).filter f)[k]? = some c → c < n ∧ f c = true ∧ upTo f c = k
  | 0, k, c, h => by simp at h
  | n + 1, k, c, h => by
    rw [List.range_succ, List.filter_append] at h
    by_cases hk : k < ((List.range n).filter f).length
    · rw [List.getElem?_append_left hk] at h
      obtain ⟨h1, h2, h3⟩ := filter_get f n k c h
      exact ⟨Nat.lt_succ_of_lt h1, h2, h3⟩
    · rw [List.getElem?_append_right (Nat.le_of_not_lt hk), List.filter_cons] at h
      split at h
      · rename_i hf
        have e : k - ((List.range n).filter f).length = 0 := by
          have := (List.getElem?_eq_some_iff.mp h).1
          simp at this
          omega
        rw [e] at h
        obtain rfl : n = c := by simpa using h
        exact ⟨Nat.lt_succ_self _, hf, by unfold upTo; omega⟩
      · simp at h
theorem place_low {L P i : Nat} (h : i < L + P) : place L P i = i := by
  unfold place
  split
  · rfl
  · rw [Nat.mod_eq_of_lt (by omega)]
    omega
theorem place_lt {L P : Nat} (hP : 0 < P) (i : Nat) : place L P i < L + P := by
  unfold place
  split
  · omega
  · have := Nat.mod_lt (i - L) hP
    omega
theorem place_per {L P i : Nat} (h : L ≤ i) : place L P (i + P) = place L P i := by
  unfold place
  rw [if_neg (by omega), if_neg (by omega), show i + P - L = i - L + P by omega, Nat.add_mod_right]
section
variable {L P : Nat} {as : List Bool}
theorem goes_per {i : Nat} (h : L ≤ i) : goesB L P as (i + P) = goesB L P as i := by
  unfold goesB
  rw [place_per h]
theorem goes_many {i : Nat} (h : L ≤ i) : ∀ t, goesB L P as (i + t * P) = goesB L P as i
  | 0 => by rw [Nat.zero_mul, Nat.add_zero]
  | t + 1 => by rw [show i + (t + 1) * P = i + t * P + P by rw [Nat.succ_mul]; omega, goes_per (by omega), goes_many h t]
theorem goes_low {i : Nat} (h : i < L + P) : goesB L P as i = as.getD i false := by
  unfold goesB
  rw [place_low h]
theorem thr_low {c : Nat} (h : c ≤ L + P) : thr L P as c = upTo (fun i => as.getD i false) c := upTo_congr fun i hi => goes_low (by omega)
theorem upTo_take (as : List Bool) : ∀ c, c ≤ as.length → upTo (fun i => as.getD i false) c = cnt (as.take c)
  | 0, _ => by simp [upTo, cnt]
  | c + 1, h => by
    have hc : c < as.length := h
    rw [upTo_succ, upTo_take as c (by omega), List.take_succ, List.getElem?_eq_getElem hc]
    unfold cnt
    rw [List.filter_append, List.length_append, List.getD_eq_getElem?_getD, List.getElem?_eq_getElem hc]
    show _ = _ + (List.filter id [as[c]]).length
    rw [List.filter_cons]
    show _ + (if as[c] = true then 1 else 0) = _ + (if as[c] = true then _ else _ : List Bool).length
    split <;> rfl
theorem thr_take (hl : as.length = L + P) {c : Nat} (h : c ≤ L + P) : thr L P as c = cnt (as.take c) := by
  rw [thr_low h, upTo_take as c (by omega)]
theorem cnt_app (xs ys : List Bool) : cnt (xs ++ ys) = cnt xs + cnt ys := by
  unfold cnt
  rw [List.filter_append, List.length_append]
theorem tot_is (hl : as.length = L + P) : tot L P as = thr L P as L + each L as := by
  unfold tot each
  rw [thr_take hl (Nat.le_refl _), thr_take hl (by omega), List.take_of_length_le (by omega), ← cnt_app, List.take_append_drop]
theorem thr_per (hl : as.length = L + P) {c : Nat} (h : L ≤ c) : thr L P as (c + P) = thr L P as c + each L as := by
  induction h with
  | refl => exact tot_is hl
  | @step m hm ih =>
    have hm : L ≤ m := hm
    have e1 := upTo_succ (goesB L P as) m
    have e2 := upTo_succ (goesB L P as) (m + P)
    rw [goes_per hm] at e2
    show upTo (goesB L P as) (m + 1 + P) = upTo (goesB L P as) (m + 1) + each L as
    have ih : upTo (goesB L P as) (m + P) = upTo (goesB L P as) m + each L as := ih
    rw [show m + 1 + P = m + P + 1 by omega, e2, e1, ih]
    omega
theorem thr_many (hl : as.length = L + P) {c : Nat} (h : L ≤ c) : ∀ t, thr L P as (c + t * P) = thr L P as c + t * each L as
  | 0 => by rw [Nat.zero_mul, Nat.zero_mul, Nat.add_zero, Nat.add_zero]
  | t + 1 => by
    rw [show c + (t + 1) * P = c + t * P + P by rw [Nat.succ_mul]; omega, thr_per hl (by omega), thr_many hl h t, Nat.succ_mul]
    omega
theorem thr_far (hl : as.length = L + P) {r : Nat} (hr : r ≤ P) (t : Nat) : thr L P as (L + r + t * P) = cnt (as.take L) + t * cnt (as.drop L) + cnt ((as.drop L).take r) := by
  rw [thr_many hl (by omega), thr_take hl (by omega), List.take_add, cnt_app]
  unfold each
  omega
theorem thr_all (hP : 0 < P) (hl : as.length = L + P) (h0 : each L as = 0) (c : Nat) : thr L P as c ≤ tot L P as := by
  by_cases h : c ≤ L + P
  · exact upTo_mono _ h
  · have e : c = (L + (c - L) % P) + (c - L) / P * P := by
      have := Nat.mod_add_div (c - L) P
      rw [Nat.mul_comm] at this
      omega
    have := Nat.mod_lt (c - L) hP
    rw [e, thr_many hl (by omega), h0, Nat.mul_zero, Nat.add_zero]
    exact upTo_mono _ (by omega)
/-- the comings of the list that go on -/
def goL (n : Nat) (as : List Bool) : List Nat := (List.range n).filter fun i => as.getD i false
theorem goL_len (L P : Nat) (as : List Bool) : (goL (L + P) as).length = tot L P as := (thr_low (Nat.le_refl _)).symm
theorem goL_get {k c : Nat} (h : (goL (L + P) as)[k]? = some c) : c < L + P ∧ goesB L P as c = true ∧ thr L P as c = k := by
  obtain ⟨h1, h2, h3⟩ := filter_get _ _ _ _ h
  exact ⟨h1, by rw [goes_low h1]; exact h2, by rw [thr_low (Nat.le_of_lt h1)]; exact h3⟩
theorem goL_side {k c : Nat} (h : (goL (L + P) as)[k]? = some c) : (L < c + 1) ↔ thr L P as L ≤ k := by
  obtain ⟨h1, h2, h3⟩ := goL_get h
  constructor
  · intro hc
    rw [← h3]
    exact upTo_mono _ (by omega)
  · intro hk
    refine Nat.lt_succ_of_le (Nat.le_of_not_lt fun lt => ?_)
    have := upTo_mono (goesB L P as) (show c + 1 ≤ L from lt)
    rw [upTo_succ, if_pos h2] at this
    have h3 : upTo (goesB L P as) c = k := h3
    have hk : upTo (goesB L P as) L ≤ k := hk
    omega
theorem from_get (g : Nat) : ∀ (n j : Nat), j < n - g → ((List.range n).filter fun i => decide (g ≤ i))[j]? = some (g + j)
  | 0, j, h => absurd h (by omega)
  | n + 1, j, h => by
    have len : ∀ n, ((List.range n).filter fun i => decide (g ≤ i)).length = n - g := fun n => by
      induction n with
      | zero => simp
      | succ n ih =>
        rw [List.range_succ, List.filter_append, List.length_append, ih, List.filter_cons]
        by_cases hg : g ≤ n
        · rw [if_pos (by simpa using hg)]
          simp
          omega
        · rw [if_neg (by simpa using hg)]
          simp
          omega
    rw [List.range_succ, List.filter_append]
    by_cases hj : j < n - g
    · rw [List.getElem?_append_left (by rw [len]; exact hj)]
      exact from_get g n j hj
    · rw [List.getElem?_append_right (by rw [len]; omega), len, List.filter_cons, if_pos (by simp; omega)]
      have e : j - (n - g) = 0 := by omega
      rw [e]
      simp
      omega
theorem from_len (g : Nat) (n : Nat) : ((List.range n).filter fun i => decide (g ≤ i)).length = n - g := by
  induction n with
  | zero => simp
  | succ n ih =>
    rw [List.range_succ, List.filter_append, List.length_append, ih, List.filter_cons]
    by_cases hg : g ≤ n
    · rw [if_pos (by simpa using hg)]
      simp
      omega
    · rw [if_neg (by simpa using hg)]
      simp
      omega
/-- the k-th coming that goes on, behind the first ones -/
theorem far_get (hP : 0 < P) (hl : as.length = L + P) (he : 0 < each L as) {k : Nat} (hk : tot L P as < k) : ∃ c0, (goL (L + P) as)[thr L P as L + (k - 1 - thr L P as L) % each L as]? = some c0 ∧
    goesB L P as (c0 + (k - 1 - thr L P as L) / each L as * P) = true ∧ thr L P as (c0 + (k - 1 - thr L P as L) / each L as * P + 1) = k := by
  have ht := tot_is hl
  have hm := Nat.mod_lt (k - 1 - thr L P as L) he
  have hd := Nat.mod_add_div (k - 1 - thr L P as L) (each L as)
  rw [Nat.mul_comm] at hd
  generalize hq : (k - 1 - thr L P as L) / each L as = q at hd
  generalize hr : (k - 1 - thr L P as L) % each L as = r at hm hd
  have hlt : thr L P as L + r < (goL (L + P) as).length := by rw [goL_len]; omega
  refine ⟨(goL (L + P) as)[thr L P as L + r], by simp [hlt], ?_⟩
  have hg : (goL (L + P) as)[thr L P as L + r]? = some (goL (L + P) as)[thr L P as L + r] := by simp [hlt]
  have hs := (goL_side hg).mpr (by omega)
  obtain ⟨h1, h2, h3⟩ := goL_get hg
  generalize (goL (L + P) as)[thr L P as L + r] = c0 at hg hs h1 h2 h3
  have g1 : goesB L P as (c0 + q * P) = true := by rw [goes_many (by omega)]; exact h2
  refine ⟨g1, ?_⟩
  have s := upTo_succ (goesB L P as) (c0 + q * P)
  rw [if_pos g1] at s
  have m := thr_many (P := P) hl (show L ≤ c0 by omega) q
  have m : upTo (goesB L P as) (c0 + q * P) = upTo (goesB L P as) c0 + q * each L as := m
  have h3 : upTo (goesB L P as) c0 = thr L P as L + r := h3
  show upTo (goesB L P as) (c0 + q * P + 1) = k
  rw [s, m, h3]
  omega
end
end KF
set_option Elab.async false
set_option linter.all false
set_option maxRecDepth 100000
set_option maxHeartbeats 4000000
namespace KF
open PySem PySem.Spec PyProof.Rows L2 Evl
local macro_rules | `(tactic| walk_at "ev") => `(tactic| repeat' (first | exact ev_c | exact ev_var rfl | exact rv_I0 | refine' rv_I ?_ | refine' rv_eq ?_ | refine' rv_ne ?_ | refine' ev_op ?_ ?_ ?_ | exact ea_nil | refine' ea_cons ?_ ?_ | refine' et_test ?_ | refine' et_B ?_ | refine' et_not ?_ | refine' ev_notV ?_))

theorem all_nat {n : Nat} {p : Nat → Bool} (h : (List.range n).all p = true) : ∀ i, i < n → p i = true := fun i hi => List.all_eq_true.mp h i (List.mem_range.mpr hi)
def EvI (te : TE) (σ : L2.St) (H : Hp) (C : Addr) (fs : List (Str × V)) : Prop := ∀ H1, Ex H H1 → ∀ Q : VK, (∀ p dx H2, H1 p = none → Ex H1 H2 → H2 p = some (.ins C dx fs) → Q (.ref p) H2) → te σ H1 Q
def EvW (K : PySem.W.Frag) (te : TE) (σ : L2.St) (H : Hp) (xs : List V) : Prop := ∀ H1, Ex H H1 → ∀ Q : VK, (∀ p H2, Ex H1 H2 → SqT K H2 p xs → Q (.ref p) H2) → te σ H1 Q
section
variable {σ : L2.St} {K : PySem.W.Frag} {H H' : Hp} {tx te ta tb tv : TE} {u t : TT} {v x y z : V} {r : R2} {D : Ends} {tz : TS}
theorem ev_isi {ta : TA} {c : V} {t u : Value} {b : Bool} (ha : EvA ta σ H [x, c]) (k : ClsV c u) (ty : ∀ H', Ex H H' → TyX K H' x t) (e : PySem.W.kitOne K t u = some b) : Ev (tCB (rIsi K) ta) σ H (.bl b) := fun H1 e1 Q q =>
  ha H1 e1 _ fun H2 e2 => ⟨x, c, t, u, b, rfl, k, ty H2 (e1.trans e2), e, q H2 e2⟩
theorem ev_chain {r r' : R2} {tc : TE} {k1 k2 : Bool} {z : V} (ha : Ev ta σ H x) (hb : Ev tb σ H y) (h1 : RV r x y H (.bl k1)) (hc : k1 = true → Ev tc σ H z ∧ RV r' y z H (.bl k2)) : Ev (tChain r r' ta tb tc) σ H (.bl (k1 && k2)) := fun H1 e1 Q q =>
  ha H1 e1 _ fun H2 e2 => hb H2 (e1.trans e2) _ fun H3 e3 => h1 H3 ((e1.trans e2).trans e3) _ fun H4 e4 => ⟨k1, rfl, by
    cases k1 with
    | true =>
      obtain ⟨h3, h4⟩ := hc rfl
      exact h3 H4 (((e1.trans e2).trans e3).trans e4) _ fun H5 e5 => h4 H5 ((((e1.trans e2).trans e3).trans e4).trans e5) _ fun H6 e6 => q H6 ((((e2.trans e3).trans e4).trans e5).trans e6)
    | false => exact q H4 ((e2.trans e3).trans e4)⟩
theorem ev_cval {ta : TE} {C : Addr} {mc : Value} {f : Str} {u : Value} (h : Ev ta σ H (.ref C)) (r : ClX.CRead K C mc) (k : ClX.CVal K C mc f v u) : Ev (ClX.tCVal K ta f) σ H v := fun H1 e Q q => h H1 e _ fun H2 e2 => ⟨C, mc, v, u, rfl, r, k, q H2 e2⟩
theorem ev_prop {C a : Addr} {dx : Addr} {fs : List (Str × V)} {sp : Sp} {E : XK} (h : Ev ta σ H (.ref a)) (ho : H a = some (.ins C dx fs)) (hs : SpV sp [.ref a] H v) : Ev (tProp C sp [] E ta) σ H v := fun H1 e Q q =>
  h H1 e _ fun H2 e2 => ⟨a, dx, fs, rfl, e2 _ _ (e _ _ ho), hs H2 (e.trans e2) Q (fun H3 e3 => q H3 (e2.trans e3)) E⟩
theorem ev_fld {C a : Addr} {dx : Addr} {fs : List (Str × V)} {f : Str} (h : Ev ta σ H (.ref a)) (ho : H a = some (.ins C dx fs)) (c : Cls K C) (n : NoAttr K C f) (l : fs.lookup f = some v) : Ev (tFld K ta f) σ H v := fun H1 e Q q =>
  h H1 e _ fun H2 e2 => ⟨a, C, dx, fs, v, rfl, e2 _ _ (e _ _ ho), c, n, l, q H2 e2⟩
theorem spv_get {C a : Addr} {dx : Addr} {fs : List (Str × V)} {f : Str} (ho : H a = some (.ins C dx fs)) (l : fs.lookup f = some v) : SpV (getSp C f) [.ref a] H v := fun H1 e Q q E => ⟨a, dx, fs, v, rfl, e _ _ ho, l, q H1 (Ex.refl _)⟩
end
section
variable {σ : L2.St} {K : PySem.W.Frag} {H H' : Hp} {tx te ta tb tv : TE} {u t : TT} {v x y z : V} {r : R2} {D : Ends} {tz : TS}
theorem el_lcS {s : Str} {tl' : TE} {j : Nat} {vs : List Nat} (f : Nat → Bool) (v : Nat → V) (h : Ev tl' σ H (.str s)) (hz : s.cps.size ≤ 40000) (hw : ∀ x, wipe ((wipe σ vs).set j (some x)) vs = wipe σ vs)
    (ht : ∀ (i : Nat) (c : Nat) H1, Ex H H1 → s.cps[i]? = some c → EvT t ((wipe σ vs).set j (some (.str ⟨#[c]⟩))) H1 (f i)) (he : ∀ (i : Nat) (c : Nat) H1, Ex H H1 → s.cps[i]? = some c → f i = true → Ev te ((wipe σ vs).set j (some (.str ⟨#[c]⟩))) H1 (v i)) :
    EvL (tLc (iStr tl') (gName j) t te vs) σ H (given s.cps.size f v) := fun H0 e Q q => h H0 e _ fun H1 e1 => ⟨s, rfl, fun Dl hD =>
  ⟨fun i m H' => m = s.cps.size - i ∧ i ≤ s.cps.size ∧ Cw H1 f v Dl i H', ⟨s.cps.size, by simp, Nat.zero_le _, hD, Ex.new hD, upd_same⟩, by
    rintro i m H' ⟨rfl, hi, p⟩
    by_cases hlt : i < s.cps.size
    · refine .inr ⟨hlt, Cw H1 f v Dl (i + 1), fun H2 p' => ⟨s.cps.size - (i + 1), by omega, rfl, hlt, p'⟩, ?_⟩
      rintro x H2 ⟨rfl, c, hc, rfl⟩
      exact ⟨hw _, cw_turn p (by omega) (ht i c H1 (e.trans e1) hc) (fun hf => he i c H1 (e.trans e1) hc hf)⟩
    · have e2 : i = s.cps.size := by omega
      subst e2
      exact .inl ⟨Nat.le_refl _, q Dl H' (fresh_back e1 p.1) (e1.trans p.2.1) p.2.2⟩⟩⟩
theorem el_lcT {a : Addr} {xs : List V} {tl : TE} {g : TG} {vs : List Nat} {σ' : V → L2.St} (f : Nat → Bool) (v : Nat → V) (h : Ev tl σ H (.ref a)) (hx : SqT K H a xs) (hz : xs.length ≤ 40000)
    (hg : ∀ (i : Nat) (x : V) H1 (Q : L2.St → Hp → Prop), Ex H H1 → xs[i]? = some x → Q (σ' x) H1 → g x (wipe σ vs) H1 Q) (hw : ∀ x, wipe (σ' x) vs = wipe σ vs)
    (ht : ∀ (i : Nat) (x : V) H1, Ex H H1 → xs[i]? = some x → EvT t (σ' x) H1 (f i)) (he : ∀ (i : Nat) (x : V) H1, Ex H H1 → xs[i]? = some x → f i = true → Ev te (σ' x) H1 (v i)) :
    EvL (tLc (iTup K tl) g t te vs) σ H (given xs.length f v) := fun H0 e Q q => h H0 e _ fun H1 e1 => ⟨a, rfl, ⟨xs, ex_t (e.trans e1) hx⟩, fun Dl hD =>
  lc_tup (xs := xs) (Cw H1 f v Dl) ⟨hD, Ex.new hD, upd_same⟩ (fun i H' _ p => ex_t ((e.trans e1).trans p.2.1) hx)
    (fun i x H' hi p => hg i x H' _ ((e.trans e1).trans p.2.1) hi ⟨hw x, cw_turn p (by have := (List.getElem?_eq_some_iff.mp hi).1; omega) (ht i x H1 (e.trans e1) hi) (fun hf => he i x H1 (e.trans e1) hi hf)⟩)
    (fun He cw => q Dl He (fresh_back e1 cw.1) (e1.trans cw.2.1) cw.2.2)⟩
theorem et_yes : EvT tYes σ H true := fun H1 _ _ q => q H1 (Ex.refl H1)
theorem eu_tuple {xs : List V} (h : EvL te σ H xs) : EvU (tCB (fun xs H Q => ∃ p ys, xs = [.ref p] ∧ ((SqL K H p ys ∧ ∀ l, H l = none → Q (.ref l) (upd H l (.tup ys))) ∨ (SqT K H p ys ∧ Q (.ref p) H))) (tCons te tNil)) σ H xs := fun H1 e Q q =>
  h H1 e _ fun p H2 _ e2 h2 => ⟨p, xs, rfl, .inl ⟨sq_of h2, fun l hl => q l _ (fresh_back e2 hl) (e2.trans (Ex.new hl)) upd_same⟩⟩
theorem ev_sum {ns : List Int} (h : EvL te σ H (ns.map V.int)) : Ev (tCB (rSum K) (tCons te tNil)) σ H (.int ns.sum) := fun H1 e Q q =>
  h H1 e _ fun p H2 _ e2 h2 => ⟨p, ns, rfl, sq_of h2, q H2 e2⟩
theorem el_is {xs ys : List V} (h : EvL te σ H xs) (e : xs = ys) : EvL te σ H ys := e ▸ h
theorem eu_is {xs ys : List V} (h : EvU te σ H xs) (e : xs = ys) : EvU te σ H ys := e ▸ h
end
section
variable {σ : L2.St} {K : PySem.W.Frag} {H H' : Hp} {tx te ta tb tv : TE} {u t : TT} {v x y z : V} {r : R2} {D : Ends} {tz : TS}
theorem q_asgTV {p : Addr} {xs : List V} {n : Nat} {tgs : TGs} (h : Ev te σ H (.ref p)) (hx : SqT K H p xs) (hl : xs.length = n) (k : ∀ H1, Ex H H1 → tgs xs σ H1 (tz D)) : tSeq (tAsg te (gTup K n tgs)) tz D σ H :=
  h H (Ex.refl _) _ fun H1 e => ⟨p, xs, rfl, ex_t e hx, hl, k H1 e⟩
end
theorem given_all {n : Nat} {v : Nat → V} : given n (fun _ => true) v = (List.range n).map v := by
  unfold given
  rw [List.filter_eq_self.mpr fun _ _ => rfl]
theorem pe_fldE {X : Cx} {K : PySem.W.Frag} {e : Expr} {ta : TE} {f : Str} {pos : Pos} (he : PE X e ta) (hb : attributeBase e f X.env (eval e X.env) = eval e X.env) (hK : X.K = K := by rfl) : PE X (.Attribute e f pos) (tFld K ta f) := by
  subst hK
  exact pe_fld he hb
section
variable {σ : L2.St} {K : PySem.W.Frag} {H H' : Hp} {tx te ta tb tv : TE} {u t : TT} {v x y z : V} {r : R2} {D : Ends} {tz : TS}
def ExB (p : Addr) (H H' : Hp) : Prop := ∀ b o, H b = some o → b ≠ p → H' b = some o
theorem ExB.refl (p : Addr) (H : Hp) : ExB p H H := fun _ _ h _ => h
theorem ExB.trans {p : Addr} {H H1 H2 : Hp} (a : ExB p H H1) (b : ExB p H1 H2) : ExB p H H2 := fun x o h n => b x o (a x o h n) n
theorem ExB.of {p : Addr} {H H' : Hp} (e : Ex H H') : ExB p H H' := fun x o h _ => e x o h
theorem q_fld {p C dx : Addr} {fs : List (Str × V)} {f : Str} (hv : Ev tv σ H y) (ha : Ev ta σ H (.ref p)) (hp : H p = some (.ins C dx fs)) (c : Cls K C) (n : NoAttr K C f) (hl : fs.length < 1000)
    (k : ∀ H1, ExB p H H1 → H1 p = some (.ins C dx (putF f y fs)) → tz D σ H1) : tSeq (sFld K ta tv f) tz D σ H :=
  hv H (Ex.refl _) _ fun H1 e1 => ha H1 e1 _ fun H2 e2 => ⟨p, C, dx, fs, rfl, e2 _ _ (e1 _ _ hp), c, n, hl, k _ (fun b o hb ne => by rw [upd_ne ne]; exact e2 _ _ (e1 _ _ hb)) upd_same⟩
end
section
variable {σ : L2.St} {K : PySem.W.Frag} {H H' : Hp} {tx te ta tb tv : TE} {u t : TT} {v x y z : V} {r : R2} {D : Ends} {tz : TS}
theorem el_sliceL {p : Addr} {xs : List V} {tl th : TO} {lo hi : Option Int} (h : Ev te σ H (.ref p)) (h1 : EvO tl σ H lo) (h2 : EvO th σ H hi) (hs : SqL K H p xs) : EvL (tSl (rSlL K) te tl th) σ H (cutV xs lo hi) := el_sl h h1 h2 hs
theorem el_listN {xs : List V} (h : EvL te σ H xs) : EvL (tCB (fun xs H Q => ∃ p ys, xs = [V.ref p] ∧ (SqL K H p ys ∨ SqT K H p ys) ∧ ∀ l, H l = none → Q (.ref l) (upd H l (.lst ys))) (tCons te tNil)) σ H xs := fun H1 e Q q =>
  h H1 e _ fun p H2 _ e2 h2 => ⟨p, xs, rfl, .inl (sq_of h2), fun l hl => q l _ (fresh_back e2 hl) (e2.trans (Ex.new hl)) upd_same⟩
theorem cut_ints (ns : List Int) (lo hi : Option Int) : ∃ ms : List Int, cutV (ns.map V.int) lo hi = ms.map V.int ∧ ms.length ≤ ns.length := by
  refine ⟨(ns.drop (HT.sIx ns.length 0 lo)).take (HT.sIx ns.length ns.length hi - HT.sIx ns.length 0 lo), ?_, ?_⟩
  · unfold cutV
    rw [List.length_map, List.map_take, List.map_drop]
  · rw [List.length_take, List.length_drop]
    omega
theorem ev_int {i : Int} (h : Ev te σ H (.int i)) : Ev (tCB (fun xs H Q => (∃ i, xs = [V.int i] ∧ Q (.int i) H) ∨ ∃ k, xs = [V.bl k] ∧ Q (.int (if k then 1 else 0)) H) (tCons te tNil)) σ H (.int i) := fun H1 e Q q => h H1 e _ fun H2 e2 => .inl ⟨i, rfl, q H2 e2⟩
theorem ev_intB {k : Bool} (h : Ev te σ H (.bl k)) : Ev (tCB (fun xs H Q => (∃ i, xs = [V.int i] ∧ Q (.int i) H) ∨ ∃ k, xs = [V.bl k] ∧ Q (.int (if k then 1 else 0)) H) (tCons te tNil)) σ H (.int (if k then 1 else 0)) := fun H1 e Q q => h H1 e _ fun H2 e2 => .inr ⟨k, rfl, q H2 e2⟩
theorem ev_lenS {p : Addr} {xs : List V} (ha : Ev ta σ H (.ref p)) (h : SqL K H p xs) : Ev (tCB (fun xs H Q => ∃ p ys, xs = [V.ref p] ∧ (SqL K H p ys ∨ SqT K H p ys) ∧ Q (.int (ys.length : Nat)) H) (tCons ta tNil)) σ H (.int (xs.length : Nat)) := ev_len ha h
theorem ev_abs {i : Int} (h : Ev te σ H (.int i)) : Ev (tCB (fun xs H Q => ∃ i, xs = [V.int i] ∧ Q (.int (if i < 0 then -i else i)) H) (tCons te tNil)) σ H (.int (if i < 0 then -i else i)) := fun H1 e Q q => h H1 e _ fun H2 e2 => ⟨i, rfl, q H2 e2⟩
end
theorem dp_ints {K : PySem.W.Frag} {H : Hp} : ∀ ns : List Int, DpAll K H (ns.map V.int) (ns.map PyData.int)
  | [] => .nil
  | n :: ns => .cons (.int n) (dp_ints ns)
theorem rv_neE {K : PySem.W.Frag} {H : Hp} {l q : Addr} {ns : List Int} (hl : H l = some (.lst (ns.map V.int))) (hq : H q = some (.lst [])) : RV (rNeD K) (.ref l) (.ref q) H (.bl (!PyData.eqv (.list (ns.map PyData.int)) (.list []))) := fun H1 e Q k =>
  ⟨.list (ns.map PyData.int), .list [], .lst (sq_of (e _ _ hl)) (dp_ints ns), .lst (sq_of (e _ _ hq)) .nil, PySem.W.ke_shaped_ints ns, PySem.W.ke_shaped_ints [], k H1 (Ex.refl H1)⟩
theorem eqv_nil (ns : List Int) : PyData.eqv (.list (ns.map PyData.int)) (.list []) = decide (ns = []) := by
  cases ns with
  | nil => simp [PyData.eqv, PyData.eqvAll]
  | cons n ns => simp [PyData.eqv, PyData.eqvAll]
theorem mul_bd {x y A B : Int} (h0 : 0 ≤ x) (h1 : x ≤ A) (h2 : 0 ≤ y) (h3 : y ≤ B) : 0 ≤ x * y ∧ x * y ≤ A * B :=
  ⟨Int.mul_nonneg h0 h2, Int.mul_le_mul h1 h3 h2 (Int.le_trans h0 h1)⟩
theorem s_retPen {te : TE} {σ : L2.St} {H : Hp} {D : Ends} {xs : List V} {x y : V} (h : EvL te σ H xs) (k : ∀ l p H1, H l = none → Ex H H1 → H1 l = some (.lst xs) → H1 p = none → D.rt (.ref p) (upd H1 p (.lst [.ref l, x, y]))) : tRet (tLst (tCons te (tCons (tC x) (tCons (tC y) tNil)))) D σ H :=
  h H (Ex.refl H) _ fun l H1 hl e1 h1 => ⟨by show 3 ≤ sizeLine; decide, fun p hp => k l p H1 hl e1 h1 hp⟩
theorem FnOk.either {P : Program} {w : World} {K : PySem.W.Frag} {mg : Str → Option Value} {base : Heap} {CX : CXT} {k : Nat} {f : Addr} {fd : FuncData} {ps : List Str} {s1 s2 : Sp} (F1 : FnOk P w K mg base CX k f fd ps s1) (F2 : FnOk P w K mg base CX k f fd ps s2) : FnOk P w K mg base CX k f fd ps (fun vs H Q E => s1 vs H Q E ∨ s2 vs H Q E) :=
  ⟨fun vs H Q E h => h.elim (F1.len vs H Q E) (F2.len vs H Q E), fun A outer s H args us vs Q E hr e0 hb r h => h.elim (F1.run A outer s H args us vs Q E hr e0 hb r) (F2.run A outer s H args us vs Q E hr e0 hb r)⟩
def TyE (K : PySem.W.Frag) (H : Hp) (x : V) (t : String) : Prop := ∀ H', Ex H H' → TyX K H' x (.type t)
def BadW (K : PySem.W.Frag) (H : Hp) (x : V) (m : Int) : Prop := (∃ (t : String) (b1 b2 : Bool), TyE K H x t ∧ kitB t "int" = some b1 ∧ kitB t "bool" = some b2 ∧ (b1 && !b2) = false) ∨ ∃ i : Int, x = .int i ∧ (i < 0 ∨ m < i)
theorem BadW.mono {K : PySem.W.Frag} {H H' : Hp} {x : V} {m : Int} (h : BadW K H x m) (e : Ex H H') : BadW K H' x m := by
  rcases h with ⟨t, b1, b2, ty, h1, h2, h3⟩ | h
  · exact .inl ⟨t, b1, b2, fun H1 e1 => ty H1 (e.trans e1), h1, h2, h3⟩
  · exact .inr h
def spW1 (K : PySem.W.Frag) : Sp := fun vs H Q _ => ∃ (x : V) (t : String) (b1 b2 : Bool), vs = [x] ∧ TyE K H x t ∧ kitB t "int" = some b1 ∧ kitB t "bool" = some b2 ∧ ∀ H', Ex H H' → Q (.bl (b1 && !b2)) H'
section
variable {K : PySem.W.Frag} {H : Hp}
theorem rv_isN {x : V} : RV (fun x y H Q => y = .non ∧ Q (.bl (decide (x = .non))) H) x .non H (.bl (decide (x = .non))) := fun H1 _ _ q => ⟨rfl, q H1 (Ex.refl H1)⟩
end
theorem op_eqE {X : Cx} {K : PySem.W.Frag} (h : X.K = K) (hu : X.A.units + 64 < cLine) : OpR X (compareOp .Eq) (rEqD K) := by
  subst h
  exact op_eqD hu
theorem op_ownBE {X : Cx} {K : PySem.W.Frag} {CX : CXT} {C g : Addr} {n : Nat} {sp : Sp} {E : XK} {op : CmpOp} (hK : X.K = K) (hop : ∀ a b, compareOp op a b = richCompare op a b) (hs : PySem.W.findIn K (.ref C) (cmpInfo op).2.1 = some (some (.ref g))) (hf : PySem.W.isFn K (.ref g) = true)
    (F : FnR X.prog X.w X.K X.mg X.base CX n g sp) (room : Room n X.A) (hx : Passes CX X E) : OpR X (compareOp op) (KD.rOwnB K C sp E) := by
  subst hK
  exact KD.op_ownB hop hs hf F room hx
theorem takes_len {X : Cx} {W : WX} (t : Takes X W) : Takes X (fun c d σ H => σ.length = X.N.length → W c d σ H) := fun u s' ⟨a, B, sI, pins, σ, H, cls, d, e, I, nb, up, sky, na, os, ag, w⟩ => t u s' ⟨a, B, sI, pins, σ, H, cls, d, e, I, nb, up, sky, na, os, ag, w I.len⟩
theorem op_neE {X : Cx} {K : PySem.W.Frag} (h : X.K = K) (hu : X.A.units + 64 < cLine) : OpR X (compareOp .NotEq) (rNeD K) := by
  subst h
  exact op_neD hu
theorem cl_of {K : PySem.W.Frag} {D : Addr} (C : ExcC K D) : (PySem.W.clsIn K D).isSome = true := by
  obtain ⟨cd, hc, _⟩ := PySem.W.any_some C.hd
  rw [hc]
  rfl
section
variable {X : Cx} {K : PySem.W.Frag}
theorem call_isiE (h : X.K = K) : CallR X (.builtin "isinstance") (rIsi K) := by
  subst h
  exact call_isi
theorem call_reprVE (h : X.K = K) (gd : X.A.guards = some []) (hu : X.A.units + 64 < cLine) : CallR X (.builtin "repr") (KD.rReprV K) := by
  subst h
  exact KD.call_reprV gd hu
theorem ix_listE (h : X.K = K) : IxR X (rIxL K) := by
  subst h
  exact ix_list
theorem op_notIn_seqE (h : X.K = K) : OpR X (compareOp .NotIn) (rIn K true) := by
  subst h
  exact op_notIn_seq
end
theorem q_asgRaw {te : TE} {i : Nat} {D : Ends} {tz : TS} {σ : L2.St} {H : Hp} (h : te σ H fun x H1 => tz D (σ.set i (some x)) H1) : tSeq (tAsg te (gName i)) tz D σ H := h
theorem ixN_nat {n j : Nat} (h : j < n) : ixN n ((j : Nat) : Int) = some j := by
  unfold ixN
  rw [if_pos (by omega), if_pos (by omega)]
  rfl
def tMethK (C : Addr) (m : Str) (sp : Sp) (gV : List V → List V → List V) (E : XK) (ta : TE) (tk : TA) : TE := fun σ H Q => ta σ H fun x H1 => ∃ a dx fs, x = .ref a ∧ H1 a = some (.ins C dx fs) ∧ fs.lookup m = none ∧ tk σ H1 fun zs H2 => sp (gV [x] zs) H2 Q E
section
variable {X : Cx} {CX : CXT} {k : Nat} {C p g : Addr} {sp : Sp} {E : XK} {o e : Expr} {es : List Expr} {m : Str} {pos apos : Pos} {ta : TE} {t tk : TA} {fd : FuncData} {ps ks : List Str} {kws : List Keyword} {gg : List Value → List Value → List Value} {gV : List V → List V → List V}
theorem pe_methK {pl : Sem Bool} (he : PE X o ta) (c : Cls X.K C) (hm : Meth X.K C m g) (F : FnOk X.prog X.w X.K X.mg X.base CX k g fd ps sp) (hr : Room k X.A) (hb : KBinds X.K fd ps ks gg gV) (hx : Passes CX X E) (hkw : PK X kws tk)
    (hall : (backToKw pos (keywordEach kws X.env)).all (·.1.isSome) = true := by rfl) (hks : (backToKw pos (keywordEach kws X.env)).filterMap (·.1) = ks := by rfl)
    (hpl : ((backTo pos (starEach [] X.env)).any (·.1) || (backToKw pos (keywordEach kws X.env)).any (·.1.isNone)) = false := by rfl)
    (ht : eval (.Call (.Attribute o m apos) [] kws pos) X.env = (do
      let ov ← eval o X.env
      standAt apos.atName
      let (f, first) ← holding [ov] (getMethod ov m pl)
      callWith pos f first (backTo pos (starEach [] X.env)) (backToKw pos (keywordEach kws X.env))) := by rfl) :
    PE X (.Call (.Attribute o m apos) [] kws pos) (tMethK C m sp gV E ta tk) := by
  refine ⟨fun pins s σ H Q I h => ?_⟩
  refine PySem.W.methodCall_KW (pl := pl) (thn (he.run pins s σ H _ I h) fun u s1 ⟨x, H1, I1, rx, a, dx, fs, ex, ea, l, q⟩ => ?_) ht
  subst ex
  obtain rfl : u = Value.ref a := rx
  refine getmeth_ok I1 ea c hm l ?_
  refine PySem.W.callWith_KW0 (first := [.ref a]) (h₀ := X.base) I1.ok.mod.kin hm.kp hall (thn (hkw.run pos pins s1 σ H1 _ I1 q) fun ws s3 ⟨zs, H2, I3, rz, q2⟩ => ⟨I3.kIn, ?_⟩) hpl
  rw [hks]
  exact run_fnk (us := [.ref a]) (vs := [.ref a]) F hr hb hx I3 (.cons rfl .nil) rz q2
end
namespace Ne
open PySem PySem.W
variable {M : Model} {prog : Program} {w : World} {A : Around} {E : Value → Shared → Prop} {s : Shared} {K : Frag} {x C f : Addr} {ox : Obj} {od : Option Obj}
theorem ifBound_ne {args : List Value} {Q : Option Value → Shared → Prop} (X : K.In s.heap) (I : InstAt s.heap x ox C od) (hs : findIn K (.ref C) "__ne__" = some (some (.builtin "object.__ne__")))
    (h : wpAny M A (call (.builtin "object.__ne__") (.ref x :: args)) (fun v => Q (some v)) E s) : wpAny M A (callSpecialIfBound? (.ref x) "__ne__" args) Q E s := by
  simp only [callSpecialIfBound?, bindSpecialIfBound?]
  refine wpAny_holding (wpAny_bind (wpAny_bind (wpAny_bind (I.type.here ((looks_findIn X hs).here ?_)))))
  refine wpAny_bind (wpAny_askSetting (wpAny_ite ?_))
  have done_ : wpAny M A (call (.builtin "object.__ne__") ([.ref x] ++ args) >>= fun v => pure (some v)) Q E s := wpAny_bind (wpAny_mono h (fun v s' h' => wpAny_pure h') fun _ _ h' => h')
  split
  · exact wpAny_bind (wpAny_of_eq (F.cmp_object.ne.bind _) (wpAny_pure (by exact done_)))
  · exact wpAny_tryCatch (wpAny_bind (wpAny_of_eq (F.cmp_object.ne.bind _) (wpAny_pure (by exact done_))))
theorem entry_ne {y : Value} {Q : Fin → Shared → Prop} (hu : A.units < cLine) (X : K.In s.heap) (I : InstAt s.heap x ox C od) (hs : findIn K (.ref C) "__eq__" = some (some (.ref f))) (hf : isFn K (.ref f) = true)
    (h : wpAny M A (call (.ref f) [.ref x, y]) (fun v s' => ∃ b, v = .bool b ∧ Q (.done (.ret (.bool (!b)))) s') E s) : wpAny M A (Builtin.«object.__ne__» ⟨[.ref x, y], []⟩) Q E s := by
  unfold Builtin.«object.__ne__»
  repeat (first
    | with_reducible refine wpAny_cRoomFor hu ?_
    | (refine wpAny_bind (m := callSpecialIfBound? (.ref x) (Str.ofString "__eq__") [y]) (ifBound_K X I hs hf (wpAny_mono h (fun r s' hr => by
          obtain ⟨b, rfl, hq⟩ := hr
          repeat (first | exact hq | exact wpAny_pure hq | exact wpAny_truthy_bool hq | (refine wpAny_bind (m := truthy (.bool _)) (wpAny_truthy_bool ?_)) | wp_step)) fun _ _ e => e)))
    | wp_step)
theorem rich_ne {y : Value} {Q : Value → Shared → Prop} (hu : A.units + 1 < cLine) (X : K.In s.heap) (I : InstAt s.heap x ox C od) (hy : Looks (model prog w) s.heap (typeOf y) (.ref C)) (hm : mroIn K C (.type "object") = some true)
    (hn : findIn K (.ref C) "__ne__" = some (some (.builtin "object.__ne__"))) (hs : findIn K (.ref C) "__eq__" = some (some (.ref f))) (hf : isFn K (.ref f) = true)
    (h : wpAny (model prog w) A.in1 (call (.ref f) [.ref x, y]) (fun v s' => ∃ b, v = .bool b ∧ Q (.bool (!b)) s') E s) : wpAny (model prog w) A (richCompare .NotEq (.ref x) y) Q E s := by
  have one : wpAny (model prog w) A (tryCompare (.ref x) "__ne__" y) (fun r s' => ∃ b, r = some (.bool b) ∧ Q (.bool b) s') E s := by
    unfold tryCompare
    refine wpAny_bind (ifBound_ne X I hn (wpAny_call (codeAny_call_builtin F.cmp_object.ne.plain F.cmpEntry_ne (check_slot F.cmpKind_ne F.cmpSplit_ne (I.type.andThen (looks_mroIn X hm)) (F.cmpArgs_ne _ _)
      (entry_ne (A := A.in1) (y := y) hu X I hs hf (wpAny_mono h (fun v s' hv => ?_) fun _ _ e => e))))))
    obtain ⟨b, rfl, hq⟩ := hv
    first | exact ⟨b, rfl, wpAny_pure ⟨!b, rfl, hq⟩⟩ | exact ⟨b, rfl, wpAny_pure (wpAny_pure ⟨!b, rfl, hq⟩)⟩ | exact ⟨b, rfl, ⟨!b, rfl, hq⟩⟩
  unfold richCompare
  simp only [oneThing_ref]
  refine wpAny_holding (wpAny_bind (wpAny_cRoomFor (Nat.lt_of_succ_lt hu) ?_))
  rw [cmpInfo_NotEq]
  dsimp only
  refine wpAny_bind (I.type.here (wpAny_bind (hy.here ?_)))
  rw [show (Value.ref C != Value.ref C) = false from by simp]
  simp only [Bool.false_eq_true, if_false]
  refine wpAny_bind (wpAny_pure ?_)
  simp only [Bool.false_eq_true, if_false]
  refine wpAny_bind (wpAny_mono one (fun r s' z => ?_) fun _ _ e => e)
  obtain ⟨b, rfl, hq⟩ := z
  first | exact wpAny_pure hq | exact wpAny_pure (wpAny_pure hq)
end Ne
open PySem
def rOwnNe (C : Addr) (sp : Sp) (E : XK) : R2 := fun x y H Q => ∃ (p dx : Addr) (fs : List (Str × V)) (q dy : Addr) (gs : List (Str × V)), x = .ref p ∧ y = .ref q ∧ H p = some (.ins C dx fs) ∧ H q = some (.ins C dy gs) ∧ sp [x, y] H (fun v H' => ∃ b, v = .bl b ∧ Q (.bl (!b)) H') E
section
variable {X : Cx} {CX : CXT} {C g : Addr} {n : Nat} {sp : Sp} {E : XK}
theorem op_ownNe (hn : PySem.W.findIn X.K (.ref C) "__ne__" = some (some (.builtin "object.__ne__"))) (hm : PySem.W.mroIn X.K C (.type "object") = some true) (hs : PySem.W.findIn X.K (.ref C) "__eq__" = some (some (.ref g))) (hf : PySem.W.isFn X.K (.ref g) = true)
    (F : FnR X.prog X.w X.K X.mg X.base CX n g sp) (room : Room (n + 1) X.A) (hx : Passes CX X E) : OpR X (compareOp .NotEq) (rOwnNe C sp E) := by
  intro pins s σ H x y v u Q I rx ry told
  obtain ⟨p, dx, fs, q, dy, gs, rfl, rfl, hp, hq, want⟩ := told
  obtain rfl : v = Value.ref p := rx
  obtain rfl : u = Value.ref q := ry
  obtain ⟨o1, d1, J1, _⟩ := StX.insC_at (X := X) I (.inr ⟨dx, fs, hp⟩)
  obtain ⟨o2, d2, J2, _⟩ := StX.insC_at (X := X) I (.inr ⟨dy, gs, hq⟩)
  have hu : X.A.units + 1 < cLine := by have := room.units; omega
  show wpAny (model X.prog X.w) X.A (richCompare .NotEq (.ref p) (.ref q)) _ _ _
  refine Ne.rich_ne hu I.kIn J1 J2.type hm hn hs hf (wpAny_mono (wpAny_call (SlX.run_at (us := [.ref p, .ref q]) (ws := [.ref p, .ref q]) F room.in1 I.env0.in1 hx I (.cons rfl (.cons rfl .nil)) want)) (fun r s' got => ?_) fun _ _ same => same)
  obtain ⟨z, H', I', rz, b, rfl, want2⟩ := got
  obtain rfl : r = Value.bool b := rz
  exact ⟨b, rfl, .bl (!b), H', I', rfl, want2⟩
end
section
variable {X : Cx} {CX : CXT} {C g : Addr} {n : Nat} {sp : Sp} {E : XK} {fd : FuncData} {ps : List Str}
theorem callK_of {M : Model} {A : Around} {E : Value → Shared → Prop} {s : Shared} {a : Addr} {pos : Pos} {Q : Value → Shared → Prop} {args : List (Bool × Sem Value)} {kws : List (Option Str × Sem Value)} (hplain : (args.any (·.1) || kws.any (·.1.isNone)) = false)
    (h : wpAny M A (evalArgs (.ref a) true args kws) (fun z s₁ => (∃ C ox od, PySem.W.InstAt s₁.heap a ox C od ∧ ox.data = .plain) ∧ wpAny M A (call (.ref a) ([] ++ z.pos) z.kw) Q E s₁) E s) : wpAny M A (callWith pos (.ref a) [] args kws) Q E s := by
  unfold callWith
  refine wpAny_bind (wpAny_holding (wpAny_mono h (fun got s2 there => wpAny_bind (wpAny_standAt ?_)) fun _ _ same => same))
  obtain ⟨⟨C, ox, od, J, hd⟩, go⟩ := there
  simp only [hplain]
  refine wpAny_bind ((PySem.W.kco_keeper (M := M) J hd).here ?_)
  exact wpAny_bind (wpAny_mono (wpAny_operateT go) (fun r s₂ hr => wpAny_bind (wpAny_holding (wpAny_point (wpAny_pure hr)))) fun _ _ y => y)
def tCallOK (C : Addr) (sp : Sp) (gV : List V → List V → List V) (E : XK) (tf : TE) (tk : TA) : TE := fun σ H Q => tf σ H fun y H1 => ∃ p, y = V.ref p ∧ tk σ H1 fun zs H2 => (∃ dx fs, H2 p = some (.ins C dx fs)) ∧ sp (gV [.ref p] zs) H2 Q E
theorem pe_callOK {fe : Expr} {pos : Pos} {kws : List Keyword} {tf : TE} {tk : TA} {ks : List Str} {gg : List Value → List Value → List Value} {gV : List V → List V → List V} (hf : PE X fe tf) (c : StX.CallO X.K C g) (F : FnOk X.prog X.w X.K X.mg X.base CX n g fd ps sp) (hr : Room n X.A) (hb : KBinds X.K fd ps ks gg gV) (hx : Passes CX X E)
    (hkw : PK X kws tk) (hall : (backToKw pos (keywordEach kws X.env)).all (·.1.isSome) = true := by rfl) (hks : (backToKw pos (keywordEach kws X.env)).filterMap (·.1) = ks := by rfl)
    (hpl : ((backTo pos (starEach [] X.env)).any (·.1) || (backToKw pos (keywordEach kws X.env)).any (·.1.isNone)) = false := by rfl)
    (ht : eval (.Call fe [] kws pos) X.env = (do callWith pos (← eval fe X.env) [] (backTo pos (starEach [] X.env)) (backToKw pos (keywordEach kws X.env))) := by rfl) : PE X (.Call fe [] kws pos) (tCallOK C sp gV E tf tk) := by
  refine ⟨fun pins s σ H Q I h => ?_⟩
  rw [ht]
  refine wpAny_bind (thn (hf.run pins s σ H _ I h) fun u s1 ⟨y, H1, I1, ry, p, ey, q⟩ => ?_)
  subst ey
  obtain rfl : u = Value.ref p := ry
  refine callK_of hpl (PyProof.Rows.evalArgs_kw2_nil hall (thn (hkw.run pos pins s1 σ H1 _ I1 q) fun ws s2 ⟨zs, H2, I2, rz, ⟨dx, fs, hi⟩, q2⟩ => ?_))
  obtain ⟨ox, od, J, hd⟩ := StX.insC_at (X := X) I2 (.inr ⟨dx, fs, hi⟩)
  refine ⟨⟨C, ox, od, J, hd⟩, ?_⟩
  rw [hks]
  have r2 := hb.rel (vs := [.ref p]) (us := [.ref p]) (.cons rfl .nil) rz
  have hl : (gg [.ref p] ws).length = ps.length := by rw [← r2.length]; exact F.len _ _ _ _ q2
  refine wpAny_call (PySem.W.kco_code (a := ⟨[] ++ [], ks.zip ws⟩) I2.kIn J hd c.at_ c.fn c.fi (codeAny_mono (F.run X.A X.stack s2 H2 ⟨[.ref p], ks.zip ws⟩ (gg [.ref p] ws) (gV [.ref p] zs) Q E hr I2.env0 (hb.to s2 [.ref p] ws I2.kIn hl) r2 q2) fun r s' hq => ?_))
  cases r with
  | error e => exact hx pins σ H2 s2 e s' I2 hq
  | ok fl =>
    cases fl with
    | ret u => exact I2.after hq
    | next => exact False.elim hq
    | brk => exact False.elim hq
    | cont => exact False.elim hq
end
theorem two {p : Addr → Prop} {c1 c2 : Addr} (a1 : p c1) (a2 : p c2) : ∀ c ∈ [c1, c2], p c := List.forall_mem_cons.mpr ⟨a1, List.forall_mem_cons.mpr ⟨a2, List.forall_mem_nil _⟩⟩
theorem off2 {c c1 c2 : Addr} (h : c ∉ [c1, c2]) : c ≠ c1 ∧ c ≠ c2 := by
  simp only [List.mem_cons, List.not_mem_nil, or_false, not_or] at h
  exact h
/-! the items of a tuple, counted -/
theorem enum1_meets {v : Value} {o : Obj} {St : Heap → Prop} (B : Begins v o St) : Meets (Builtin.«enumerate.__new__» ⟨[.type "enumerate", v], []⟩) (fun _ R s => St s.heap ∧
    R (.ok (.ret (.ref (s.heap.push o).objs.size))) { s with heap := (s.heap.push o).push { cls := .type "enumerate", data := .fields #[.none, .bool false, .ref s.heap.objs.size, rawInt 0, .none, .none] } }) :=
  .of_wp fun prog w A R ⟨hp, gn, dr, tk, os⟩ ⟨st, go⟩ => by
    have is_a := sub_enumerate
    have it1 : ∀ {A' : Around} {E Q : Value → Shared → Prop}, Q (.ref hp.objs.size) ⟨hp.push o, gn, dr, tk, os⟩ → wpAny (model prog w) A' (pyIter v) Q E ⟨hp, gn, dr, tk, os⟩ := fun q => B.iter prog w _ _ ⟨hp, gn, dr, tk, os⟩ _ st q
    wp_walk using it1
    refine wpAny_stack_any fun stack => wpAny_pure ?_
    split
    · rename_i c _ _ _ _ _
      cases (c == Value.type "enumerate") <;> (wp_walk using it1; exact ⟨_, rfl, go⟩)
    · wp_walk using it1
      exact ⟨_, rfl, go⟩
structure CountTo (b e it : Addr) (i : Nat) (h : Heap) : Prop where
  en : ∃ old, IsEnum h e it (i : Int) old
  tup : h.IsTupleIter it b i
section
variable {b e it : Addr} {i : Nat} {h h' : Heap}
theorem CountTo.obj (q : CountTo b e it i h) : ∀ c ∈ [e, it], ∃ o, h.get? c = some o ∧ ∀ v, o.data ≠ .cell v := by
  obtain ⟨old, he⟩ := q.en
  obtain ⟨p1, g1, _, n1⟩ := q.tup
  exact two ⟨_, he, nofun⟩ ⟨p1, g1, by rw [n1]; exact nofun⟩
theorem CountTo.lt (q : CountTo b e it i h) : ∀ c ∈ [e, it], c < h.objs.size := fun c m => let ⟨_, g, _⟩ := q.obj c m; Heap.lt_size g
theorem CountTo.keep (q : CountTo b e it i h) (k : ∀ c ∈ [e, it], ∀ o, h.get? c = some o → h'.get? c = some o) : CountTo b e it i h' := by
  obtain ⟨old, he⟩ := q.en
  refine ⟨⟨old, k e ?_ _ he⟩, q.tup.at fun o e => k it ?_ o e⟩ <;> simp
end
def ItEt (K : PySem.W.Frag) (b : Addr) : It :=
  ⟨fun i H => ∃ (ys : List V) (y : V), SqT K H b ys ∧ ys[i]? = some y, fun i H v H' => ∃ (T : Addr) (y : V), v = .ref T ∧ H T = none ∧ H' = upd H T (.tup [.int (i : Nat), y]) ∧ ∀ ys, SqT K H b ys → ys[i]? = some y, fun i H => ∃ ys : List V, SqT K H b ys ∧ i = ys.length⟩
theorem turn_enT {P : Program} {w : World} {K : PySem.W.Frag} {elts : List Expr} {kk : Nat} {tpos : Pos} {b e it : Addr} (ne : e ≠ it) (hb : b ≠ it) (hbe : e ≠ b) :
    Turn P w K (.Tuple elts kk tpos) (ItEt K b) [e, it] e (CountTo b e it) where
  mem := List.mem_cons_self ..
  obj := fun _ _ q => q.obj
  keep := fun _ _ _ q k => q.keep k
  self := fun _ _ _ _ _ q k => let ⟨_, he⟩ := q.en; wpAny_pyIter_enum he k
  item := by
    intro X e1 e2 e3 calm i pins s σ H E I free st more
    subst e1 e2 e3
    have quiet : X.A.in1.handled = none := I.ok.hd calm
    obtain ⟨ys, y, seq, hy⟩ := more
    obtain ⟨us, ru, isT, _⟩ := I.tuple seq
    obtain ⟨u, hu, ry⟩ := ru.get hy
    obtain ⟨old, he⟩ := st.en
    have in1 : i < us.toArray.size := by simpa using (List.getElem?_eq_some_iff.mp hu).1
    refine wpAny_pyNext_enum_itemC (Draws.tuple quiet it b hb us.toArray) he ⟨st.tup, isT⟩ in1 ne (fun m => by
      rcases List.mem_cons.mp m with z | m
      · exact ne z
      · exact hbe (List.mem_singleton.mp m)) fun w1 g tk src out s1 gT _ rest => ?_
    obtain rfl : u = w1 := Option.some.inj ((show us.toArray[i]? = some u by simpa using hu).symm.trans src)
    have elt := st.lt e (List.mem_cons_self ..)
    refine ⟨_, rfl, wpAny_letOwnedTupleGo_enum (s := { s with heap := g, toks := tk + 1 }) out fun g' en' but => ?_⟩
    have gT' := (but.2 _ (Nat.ne_of_gt elt)).trans gT
    have pair : ObjOk X.prog X.w (upd H s.heap.objs.size (.tup [.int (i : Nat), y])) g' s.heap.objs.size (.tup [.int (i : Nat), y]) := ⟨by show 2 ≤ sizeLine; decide, [.int (i : Nat) tk, u], .cons ⟨tk, rfl⟩ (.cons ry .nil), ⟨_, gT', rfl, _, rfl⟩⟩
    have far : ∀ c' o, c' ∉ [e, it] → s.heap.get? c' = some o → g'.get? c' = some o := fun c' o n q => by
      obtain ⟨n1, n2⟩ := off2 n
      exact (but.2 c' n1).trans (rest c' o n1 n2 q)
    refine ⟨.ref s.heap.objs.size, _, I.turnedNew (t' := tk + 1) (ch := [e, it]) far free (Nat.le_refl _) pair, rfl, ⟨_, y, rfl, I.hok.fresh (Nat.le_refl _), rfl, fun l hl => by rw [I.tuple_inj hl seq]; exact hy⟩, ?_, fun c' m => ?_⟩
    · refine ⟨⟨u, ?_⟩, s1.1.at fun o q => (but.2 _ ne.symm).trans q⟩
      rw [show ((i + 1 : Nat) : Int) = (i : Int) + 1 by omega]
      exact en'
    · exact (upd_ne (Nat.ne_of_lt (st.lt c' m))).trans (free c' m).1
  done := by
    intro X e1 e2 e3 calm i pins s σ H E I free st over
    subst e1 e2 e3
    obtain ⟨ys, seq, rfl⟩ := over
    obtain ⟨us, ru, isT, _⟩ := I.tuple seq
    have quiet : X.A.in1.handled = none := I.ok.hd calm
    have size : us.toArray.size = ys.length := by rw [ru.length]; simp
    obtain ⟨old, he⟩ := st.en
    refine wpAny_pyNext_enum_endD (Draws.tuple quiet it b hb us.toArray) he ⟨?_, isT⟩ fun g rest => ⟨rfl, I.turnedL (t' := s.toks) (ch := [e, it]) (fun c o n q => rest c o (off2 n).2 q) free⟩
    rw [size]
    exact st.tup
def iEnT (K : PySem.W.Frag) (te : TE) : TI := fun σ H R => te σ H fun v H1 => ∃ b ys, v = .ref b ∧ SqT K H1 b ys ∧ R (ItEt K b) H1
theorem pi_enT {X : Cx} {d : Expr} {te : TE} {p pos tpos : Pos} {elts : List Expr} {kk : Nat} (hg : Gl X "enumerate") (hm : X.mg "enumerate" = none) (ha : PE X d te) (flat : starEach [d] X.env = (false, eval d X.env) :: starEach [] X.env := by rfl)
    (plain : (backTo pos (starEach [] X.env)).any (·.1) = false := by rfl) : PI X (.Tuple elts kk tpos) (.Call (.Name "enumerate" p) [d] [] pos) (iEnT X.K te) where
  run := fun pins s σ H R I start => by
    have one : PA X [d] (tCons te tNil) := pa_cons (hs := flat) ha pa_nil
    refine Call_ (ld_blt I hg hm PyProof.Rows.boot_enumerate (PyProof.Rows.callWith_type1 (thn (one.run pos pins s σ H (fun vs H1 => ∃ b ys, vs = [.ref b] ∧ SqT X.K H1 b ys ∧ R (ItEt X.K b) H1) I ?st) fun us s1 ⟨vs, H1, J, r, q⟩ => ?_) flat plain))
    case st =>
      show te σ H fun v H1 => ∃ b ys, [v] = [V.ref b] ∧ SqT X.K H1 b ys ∧ R (ItEt X.K b) H1
      have : (fun v H1 => ∃ b ys, v = V.ref b ∧ SqT X.K H1 b ys ∧ R (ItEt X.K b) H1) = fun v H1 => ∃ b ys, [v] = [V.ref b] ∧ SqT X.K H1 b ys ∧ R (ItEt X.K b) H1 := by
        funext v H1
        simp
      rw [← this]
      exact start
    obtain ⟨b, ys, ev, seq, go⟩ := q
    subst ev
    cases r with | cons q1 q2 => ?_
    cases q2
    cases q1
    obtain ⟨ws, _, isT, _⟩ := J.tuple seq
    have bl : b < s1.heap.objs.size := let ⟨_, ho, _⟩ := id isT; Heap.lt_size ho
    have young : ∀ j, FpOk X pins H1 (s1.heap.objs.size + j) := fun j => J.fpOk (Nat.le_add_right ..) (J.hok.fresh (Nat.le_add_right ..))
    refine callType_new F.called_enumerate (by decide) (F.typeCall_enumerate_1 _) (F.newCall_enumerate_1 _) (fun obj => F.args_object_init_2 obj _) F.entry_enumerate_new (enum1_meets (begins_tuple b ws.toArray)) ⟨show s1.heap.IsTuple b ws.toArray from isT, ?_⟩
    have size : (s1.heap.push { cls := .type "tuple_iterator", data := .fields #[.ref b, .int 0 0] }).objs.size = s1.heap.objs.size + 1 := Heap.size_push ..
    show _ ∧ _
    rw [size]
    have new := Heap.get?_push_size (s1.heap.push { cls := .type "tuple_iterator", data := .fields #[.ref b, .int 0 0] }) (o := { cls := .type "enumerate", data := .fields #[.none, .bool false, .ref s1.heap.objs.size, rawInt 0, .none, .none] }) rfl
    rw [size] at new
    refine ⟨⟨_, new, rfl⟩, wpAny_pyIter_enum new ?_⟩
    exact ⟨s1.heap.objs.size + 1, _, CountTo b (s1.heap.objs.size + 1) s1.heap.objs.size, ItEt X.K b, H1, rfl, J.kept (t' := s1.toks) fun c o q => Heap.get?_push_of_some _ (Heap.get?_push_of_some _ q), turn_enT (Nat.succ_ne_self _) (Nat.ne_of_lt bl) (Nat.ne_of_gt (Nat.lt_succ_of_lt bl)), ⟨⟨_, new⟩, ⟨_, Heap.get?_push_of_some _ (Heap.get?_push_size _ rfl), rfl, rfl⟩⟩, two (young 1) (young 0), go⟩

end KF
set_option Elab.async false
set_option linter.all false
set_option maxRecDepth 100000
set_option maxHeartbeats 4000000
namespace KF
open PySem PySem.Spec PyProof.Rows L2 Evl
/-! ### sums of tuples of bools; slices, sums, comprehensions of tuples; divmod -/
theorem pre_bools (bs : List Bool) : ∀ n, n ≤ bs.length → preSum (fun i => if bs.getD i false = true then 1 else 0) n = (upTo (fun i => bs.getD i false) n : Nat)
  | 0, _ => rfl
  | n + 1, h => by
    rw [preSum, pre_bools bs n (by omega), upTo_succ]
    split <;> simp
def rSumB (K : PySem.W.Frag) : List V → Hp → VK → Prop := fun vs H Q => ∃ (a : Addr) (bs : List Bool), vs = [V.ref a] ∧ SqT K H a (bs.map V.bl) ∧ Q (.int (cnt bs : Nat)) H
theorem call_sumB {X : Cx} (hc : X.calm = true) : CallR X (.builtin "sum") (rSumB X.K) := by
  intro pins s σ H vs us Q I r h
  obtain ⟨a, bs, rfl, hs, q⟩ := h
  obtain ⟨its, rv, ht, _⟩ := I.tuple hs
  rw [Vals.ref1 r]
  have hb := rv.bls
  have ht : s.heap.IsTuple a its.toArray := ht
  obtain ⟨o, ho, hcl, n, hd⟩ := id ht
  have hne : a ≠ s.heap.objs.size := Nat.ne_of_lt (Heap.lt_size ho)
  have hsz : its.toArray.size = bs.length := by rw [hb]; simp
  have W := (Walks.tuple (prog := X.prog) (w := X.w) (A := X.A.in1) (I.ok.hd hc) s.heap.objs.size a hne its.toArray).toS
  rw [hsz] at W
  refine call_sum_walkAnyB (wpAny_pyIter_tuple ht ?_)
  refine ⟨s.heap.objs.size, _, _, _, _, _, _, fun i => if bs.getD i false = true then 1 else 0, rfl, W, ⟨⟨_, Heap.get?_push_size _ rfl, rfl, rfl⟩, ht.at fun o e => Heap.get?_push_of_some _ e⟩, fun b hb => ?_, fun i v hP => ?_, fun s' t' hm => ?_⟩
  · rcases List.mem_cons.mp hb with rfl | hb
    · exact Heap.lt_size (Heap.get?_push_size _ rfl)
    · obtain rfl := List.mem_singleton.mp hb
      exact Heap.lt_size (Heap.get?_push_of_some _ ho)
  · have hv' : its[i]? = some v := by simpa using hP
    rw [hb, List.getElem?_map] at hv'
    obtain ⟨b, hb2, rfl⟩ := Option.map_eq_some_iff.mp hv'
    exact .inr ⟨b, rfl, by
      show (if bs.getD i false = true then (1 : Int) else 0) = _
      rw [List.getD_eq_getElem?_getD, hb2] <;> rfl⟩
  · obtain ⟨h', g', d', tk', os'⟩ := s'
    have e1 : g' = s.gens := hm.gens
    have e2 : d' = s.drawn := hm.drawn
    have e3 : os' = s.os := hm.os
    subst e1 e2 e3
    refine ⟨.int _, H, I.kept fun b o e => hm.heap b o (fun hb => absurd (Heap.lt_size e) ((List.mem_singleton.mp hb) ▸ Nat.lt_irrefl _)) (Heap.get?_push_of_some _ e), ⟨_, rfl⟩, ?_⟩
    rw [pre_bools bs _ (Nat.le_refl _), upTo_take bs _ (Nat.le_refl _), List.take_length]
    exact q
/-- a tuple, made or old -/
def EvX (te : TE) (σ : L2.St) (H : Hp) (xs : List V) : Prop := ∀ H1, Ex H H1 → ∀ Q : VK, (∀ p H2, Ex H1 H2 → H2 p = some (.tup xs) → Q (.ref p) H2) → te σ H1 Q
section
variable {σ : L2.St} {K : PySem.W.Frag} {H H' : Hp} {tx te ta tb tv : TE} {u t : TT} {v x y z : V} {r : R2} {D : Ends} {tz : TS}
theorem ew_of {p : Addr} {xs : List V} (h : Ev te σ H (.ref p)) (hp : H p = some (.tup xs)) : EvX te σ H xs := fun H1 e Q q => h H1 e _ fun H2 e2 => q p H2 e2 ((e.trans e2) _ _ hp)
theorem ew_u {xs : List V} (h : EvU te σ H xs) : EvX te σ H xs := fun H1 e Q q => h H1 e _ fun p H2 _ e2 h2 => q p H2 e2 h2
theorem ew_is {xs ys : List V} (h : EvX te σ H xs) (e : xs = ys) : EvX te σ H ys := e ▸ h
theorem cut_whole {xs : List V} {lo hi : Option Int} (h : HT.sIx xs.length 0 lo = 0 ∧ HT.sIx xs.length xs.length hi = xs.length) : cutV xs lo hi = xs := by
  unfold cutV
  rw [h.1, h.2, List.drop_zero, Nat.sub_zero, List.take_length]
/-- t[lo:hi] -/
theorem ew_sl {tl th : TO} {lo hi : Option Int} {xs : List V} (h : EvX te σ H xs) (h1 : EvO tl σ H lo) (h2 : EvO th σ H hi) : EvX (tSl (rSlA K) te tl th) σ H (cutV xs lo hi) := fun H1 e Q q =>
  h H1 e _ fun p H2 e2 hp => h1 H2 (e.trans e2) _ fun H3 e3 => h2 H3 ((e.trans e2).trans e3) _ fun H4 e4 => ⟨p, xs, rfl, st_of ((e3.trans e4) _ _ hp), fun hw => q p H4 ((e2.trans e3).trans e4) (by rw [cut_whole hw]; exact (e3.trans e4) _ _ hp), fun _ l hl => q l _ (((e2.trans e3).trans e4).trans (Ex.new hl)) upd_same⟩
/-- t + u -/
theorem ew_cat {xs ys : List V} (h1 : EvX ta σ H xs) (h2 : EvX tb σ H ys) (hz : xs.length + ys.length ≤ 100000) : EvX (tOp (rCatA K) ta tb) σ H (xs ++ ys) := fun H1 e Q q =>
  h1 H1 e _ fun p H2 e2 hp => h2 H2 (e.trans e2) _ fun l H3 e3 hl => ⟨p, l, xs, ys, rfl, rfl, st_of (e3 _ _ hp), st_of hl, sz_of hz, fun n => q l H3 (e2.trans e3) (by rw [n]; exact hl), fun _ n => q p H3 (e2.trans e3) (by rw [n, List.append_nil]; exact e3 _ _ hp), fun _ _ a ha => q a _ ((e2.trans e3).trans (Ex.new ha)) upd_same⟩
theorem ev_sumB {bs : List Bool} (h : EvX te σ H (bs.map V.bl)) : Ev (tCB (rSumB K) (tCons te tNil)) σ H (.int (cnt bs : Nat)) := fun H1 e Q q => h H1 e _ fun p H2 e2 hp => ⟨p, bs, rfl, st_of hp, q H2 e2⟩
theorem el_listW {xs : List V} (h : EvX te σ H xs) : EvL (tCB (fun xs H Q => ∃ p ys, xs = [V.ref p] ∧ (SqL K H p ys ∨ SqT K H p ys) ∧ ∀ l, H l = none → Q (.ref l) (upd H l (.lst ys))) (tCons te tNil)) σ H xs := fun H1 e Q q =>
  h H1 e _ fun p H2 e2 h2 => ⟨p, xs, rfl, .inr (st_of h2), fun l hl => q l _ (fresh_back e2 hl) (e2.trans (Ex.new hl)) upd_same⟩
theorem ev_lenW {xs : List V} (h : EvX te σ H xs) : Ev (tCB (fun xs H Q => ∃ p ys, xs = [V.ref p] ∧ (SqL K H p ys ∨ SqT K H p ys) ∧ Q (.int (ys.length : Nat)) H) (tCons te tNil)) σ H (.int (xs.length : Nat)) := fun H1 e Q q =>
  h H1 e _ fun p H2 e2 h2 => ⟨p, xs, rfl, .inr (st_of h2), q H2 e2⟩
theorem ev_lenN {xs : List V} (h : EvL te σ H xs) : Ev (tCB (fun xs H Q => ∃ p ys, xs = [V.ref p] ∧ (SqL K H p ys ∨ SqT K H p ys) ∧ Q (.int (ys.length : Nat)) H) (tCons te tNil)) σ H (.int (xs.length : Nat)) := fun H1 e Q q =>
  h H1 e _ fun p H2 _ e2 h2 => ⟨p, xs, rfl, .inl (sq_of h2), q H2 e2⟩
/-- a comprehension over a tuple, made or old -/
theorem el_lcW {xs : List V} {tl : TE} {j : Nat} {vs : List Nat} (f : Nat → Bool) (v : Nat → V) (h : EvX tl σ H xs) (hz : xs.length ≤ 40000) (hw : ∀ x, wipe ((wipe σ vs).set j (some x)) vs = wipe σ vs)
    (ht : ∀ (i : Nat) (x : V) H1, Ex H H1 → xs[i]? = some x → EvT t ((wipe σ vs).set j (some x)) H1 (f i)) (he : ∀ (i : Nat) (x : V) H1, Ex H H1 → xs[i]? = some x → f i = true → Ev te ((wipe σ vs).set j (some x)) H1 (v i)) :
    EvL (tLc (iTup K tl) (gName j) t te vs) σ H (given xs.length f v) := fun H0 e Q q => h H0 e _ fun a H1 e1 hx => ⟨a, rfl, ⟨xs, st_of hx⟩, fun Dl hD =>
  lc_tup (xs := xs) (Cw H1 f v Dl) ⟨hD, Ex.new hD, upd_same⟩ (fun i H' _ p => st_of (p.2.1 _ _ hx)) (fun i x H' hi p => ⟨hw x, cw_turn p (by have := (List.getElem?_eq_some_iff.mp hi).1; omega) (ht i x H1 (e.trans e1) hi) (fun hf => he i x H1 (e.trans e1) hi hf)⟩)
    (fun H' p => q Dl H' (fresh_back e1 p.1) (e1.trans p.2.1) p.2.2)⟩
/-- a comprehension over enumerate(tuple) -/
theorem el_lcEn {b : Addr} {ys : List V} {tl : TE} {i1 i2 : Nat} {vs : List Nat} (f : Nat → Bool) (v : Nat → V) (h : Ev tl σ H (.ref b)) (hb : SqT K H b ys) (hz : ys.length ≤ 40000)
    (hw : ∀ x y, wipe (((wipe σ vs).set i1 (some x)).set i2 (some y)) vs = wipe σ vs)
    (ht : ∀ (i : Nat) (y : V) H1, Ex H H1 → ys[i]? = some y → EvT t (((wipe σ vs).set i1 (some (.int (i : Nat)))).set i2 (some y)) H1 (f i)) (he : ∀ (i : Nat) (y : V) H1, Ex H H1 → ys[i]? = some y → f i = true → Ev te (((wipe σ vs).set i1 (some (.int (i : Nat)))).set i2 (some y)) H1 (v i)) :
    EvL (tLc (iEnT K tl) (gTup K 2 (gCons (gName i1) (gCons (gName i2) gNil))) t te vs) σ H (given ys.length f v) := fun H0 e Q q => h H0 e _ fun H1 e1 => ⟨b, ys, rfl, ex_t (e.trans e1) hb, fun Dl hD =>
  ⟨fun i m H' => m = ys.length - i ∧ i ≤ ys.length ∧ Cw H1 f v Dl i H', ⟨ys.length, by simp, Nat.zero_le _, hD, Ex.new hD, upd_same⟩, by
    rintro i m H' ⟨rfl, hi, p⟩
    have hb' : SqT K H' b ys := ex_t ((e.trans e1).trans p.2.1) hb
    by_cases hlt : i < ys.length
    · refine .inr ⟨⟨ys, ys[i], hb', by simp [hlt]⟩, Cw H1 f v Dl (i + 1), fun H2 p' => ⟨ys.length - (i + 1), by omega, rfl, hlt, p'⟩, ?_⟩
      rintro x H2 ⟨T, y, rfl, hT, rfl, hy⟩
      have hy' := hy ys hb'
      have e2 : Ex H' (upd H' T (.tup [.int (i : Nat), y])) := Ex.new hT
      have p' : Cw H1 f v Dl i (upd H' T (.tup [.int (i : Nat), y])) := ⟨p.1, p.2.1.trans e2, e2 _ _ p.2.2⟩
      exact ⟨T, _, rfl, st_of upd_same, rfl, _, _, rfl, _, _, rfl, rfl, hw _ _, cw_turn p' (by omega) (ht i y H1 (e.trans e1) hy') (fun hf => he i y H1 (e.trans e1) hy' hf)⟩
    · have e2 : i = ys.length := by omega
      subst e2
      exact .inl ⟨⟨ys, hb', rfl⟩, q Dl H' (fresh_back e1 p.1) (e1.trans p.2.1) p.2.2⟩⟩⟩
/-- a, b = divmod(x, y) -/
theorem q_divmod {i j : Nat} {a b : Int} (h1 : Ev ta σ H (.int a)) (h2 : Ev tb σ H (.int b)) (h0 : 0 < b) (hb : b < 1073741824) (k : ∀ H1, Ex H H1 → tz D ((σ.set i (some (.int (a / b)))).set j (some (.int (a % b)))) H1) :
    tSeq (tAsg (tCB (fun xs H Q => ∃ i j, xs = [V.int i, V.int j] ∧ CDiv i j ∧ ∀ p, H p = none → Q (.ref p) (upd H p (.tup [.int (i / j), .int (i % j)]))) (tCons ta (tCons tb tNil))) (gTup K 2 (gCons (gName i) (gCons (gName j) gNil)))) tz D σ H :=
  h1 H (Ex.refl H) _ fun H1 e1 => h2 H1 e1 _ fun H2 e2 => ⟨a, b, rfl, ⟨h0, hb⟩, fun p hp => ⟨p, _, rfl, st_of upd_same, rfl, _, _, rfl, _, _, rfl, rfl, k _ ((e1.trans e2).trans (Ex.new hp))⟩⟩
end
/-! ### tuples of bools as data -/
theorem dp_bools {K : PySem.W.Frag} {H : Hp} : ∀ bs : List Bool, DpAll K H (bs.map V.bl) (bs.map PyData.bool)
  | [] => .nil
  | b :: bs => .cons (.bl b) (dp_bools bs)
theorem vals_flat : ∀ bs : List Bool, (bs.map V.bl).all flatV = true
  | [] => rfl
  | _ :: bs => vals_flat bs
theorem true_in : ∀ bs : List Bool, inV (.bl true) (bs.map V.bl) = decide (0 < cnt bs)
  | [] => rfl
  | b :: bs => by
    have ih := true_in bs
    unfold inV at ih ⊢
    rw [List.map_cons, List.any_cons, ih]
    cases b with
    | true => simp [cnt, eqV]
    | false => simp [cnt, eqV]
theorem eqv_bools : ∀ xs ys : List Bool, PyData.eqvAll (xs.map PyData.bool) (ys.map PyData.bool) = decide (xs = ys)
  | [], [] => by simp [PyData.eqvAll]
  | [], _ :: _ => by simp [PyData.eqvAll]
  | _ :: _, [] => by simp [PyData.eqvAll]
  | x :: xs, y :: ys => by
    simp only [List.map_cons, PyData.eqvAll, eqv_bools xs ys]
    cases x <;> cases y <;> simp [PyData.eqv]
end KF
set_option Elab.async false
set_option linter.all false
set_option maxRecDepth 100000
set_option maxHeartbeats 4000000
namespace KF
open PySem PySem.Spec PyProof.Rows L2 Evl
theorem lay_bools : ∀ bs : List Bool, PyData.canLayAll0 (bs.map PyData.bool) = true
  | [] => by simp [PyData.canLayAll0]
  | b :: bs => by simp [PyData.canLayAll0, PyData.canLay0, lay_bools bs]
theorem depth_bools : ∀ bs : List Bool, PyData.depthAll (bs.map PyData.bool) = 0
  | [] => by simp [PyData.depthAll]
  | b :: bs => by simp [PyData.depthAll, PyData.depth, depth_bools bs]
theorem weight_bools : ∀ bs : List Bool, PyData.weightAll (bs.map PyData.bool) ≤ 2 * bs.length
  | [] => by simp [PyData.weightAll]
  | b :: bs => by
    have := weight_bools bs
    simp only [List.map_cons, PyData.weightAll, PyData.weight, List.length_cons]
    omega
theorem show_bools : ∀ bs : List Bool, PyData.showableAll (bs.map PyData.bool) = true
  | [] => by simp [PyData.showableAll]
  | b :: bs => by simp [PyData.showableAll, PyData.showable, show_bools bs]
theorem nodict_bools : ∀ bs : List Bool, PyData.hasDictAll (bs.map PyData.bool) = false
  | [] => by simp [PyData.hasDictAll]
  | b :: bs => by simp [PyData.hasDictAll, PyData.hasDict, nodict_bools bs]
theorem shaped_tup (bs : List Bool) : SeqAt.shaped (.tuple (bs.map PyData.bool)) = true := by
  unfold SeqAt.shaped
  simp [PyData.canLay0, PyData.depth, lay_bools, depth_bools]
def partD (l p : Nat) (bs : List Bool) : PyData := .list [.int (l : Nat), .int (p : Nat), .tuple (bs.map PyData.bool)]
theorem log_small {n : Nat} (h : n < 1000) : ((n : Nat) : Int).natAbs.log2 < 1920 := by
  have e : ((n : Nat) : Int).natAbs = n := Int.natAbs_natCast n
  rw [e]
  by_cases z : n = 0
  · subst z; decide
  · exact Nat.lt_trans ((Nat.log2_lt z).mpr (Nat.lt_trans h (by decide : 1000 < 2 ^ 10))) (by decide)
theorem part_fits {l p : Nat} {bs : List Bool} (hl : l < 1000) (hp : p < 1000) (hb : bs.length ≤ 100) : (partD l p bs).showable = true ∧ (partD l p bs).hasDict = false ∧ (partD l p bs).depth ≤ 60 ∧ (partD l p bs).shown.length ≤ sizeLine := by
  have s1 := log_small hl
  have s2 := log_small hp
  refine ⟨?_, ?_, ?_, ?_⟩
  · unfold partD
    simp only [PyData.showable, PyData.showableAll, show_bools, Bool.and_true, Bool.and_eq_true, decide_eq_true_eq]
    exact ⟨s1, s2⟩
  · unfold partD
    simp [PyData.hasDict, PyData.hasDictAll, nodict_bools]
  · unfold partD
    simp [PyData.depth, PyData.depthAll, depth_bools]
  · refine PyData.shown_fits_of_layable0 (B := 13) (by decide) (by decide) ?_ ?_
    · unfold partD PyData.layable0
      have w := weight_bools bs
      simp only [PyData.canLay0, PyData.canLayAll0, PyData.depth, PyData.depthAll, PyData.weight, PyData.weightAll, lay_bools, depth_bools, Bool.and_true, Bool.true_and, Bool.and_eq_true, decide_eq_true_eq]
      refine ⟨by decide, ?_⟩
      refine decide_eq_true ?_
      have z : (2 : Nat) ^ 20 = 1048576 := by decide
      rw [z]
      split <;> split <;> omega
    · unfold partD
      have i1 : (PyData.shown (.int (l : Nat))).length ≤ 13 := PyData.shown_int_le (by rw [Int.natAbs_natCast]; exact Nat.lt_trans hl (by decide))
      have i2 : (PyData.shown (.int (p : Nat))).length ≤ 13 := PyData.shown_int_le (by rw [Int.natAbs_natCast]; exact Nat.lt_trans hp (by decide))
      simp only [PyData.intsShort, PyData.intsShortAll, PyData.intsShortAll_bools, Bool.and_true, Bool.true_and, Bool.and_eq_true, decide_eq_true_eq]
      exact ⟨i1, i2⟩
def pairD (b : Bool) (n : Nat) : PyData := .list [.bool b, .int (n : Nat)]
theorem pair_fits : ∀ (b : Bool) (n : Nat), n < 61 → (pairD b n).showable = true ∧ (pairD b n).hasDict = false ∧ (pairD b n).depth ≤ 60 ∧ (pairD b n).shown.length ≤ sizeLine := by
  have h : ∀ b : Bool, ((List.range 61).all fun n => decide ((pairD b n).showable = true ∧ (pairD b n).hasDict = false ∧ (pairD b n).depth ≤ 60 ∧ (pairD b n).shown.length ≤ 1000)) = true := by decide +kernel
  intro b n hn
  obtain ⟨h1, h2, h3, h4⟩ := of_decide_eq_true (all_nat (h b) n hn)
  exact ⟨h1, h2, h3, Nat.le_trans h4 (by decide)⟩
end KF
set_option Elab.async false
set_option linter.all false
set_option maxRecDepth 100000
set_option maxHeartbeats 4000000
namespace KS
open PySem PySem.Spec PyProof.Rows L2
/-! ### the set of some texts: how many they are -/
/-- how many unlike texts stand among the first i -/
def unlike (xs : List Str) : Nat → Nat
  | 0 => 0
  | i + 1 => if (xs.take i).any (· == xs.getD i Str.empty) = true then unlike xs i else unlike xs i + 1
theorem unlike_le (xs : List Str) : ∀ i, unlike xs i ≤ i
  | 0 => Nat.le_refl _
  | i + 1 => by
    have := unlike_le xs i
    unfold unlike
    split <;> omega
theorem take_any (xs : List Str) {i : Nat} (h : i < xs.length) (k : Str) : (xs.take (i + 1)).any (· == k) = ((xs.take i).any (· == k) || decide (k = xs.getD i Str.empty)) := by
  rw [List.take_succ, List.getElem?_eq_getElem h, List.any_append, List.getD_eq_getElem?_getD, List.getElem?_eq_getElem h]
  congr 1
  show ((xs[i] == k) || false) = decide (k = xs[i])
  rw [Bool.or_false]
  by_cases e : k = xs[i]
  · rw [decide_eq_true e, beq_iff_eq.mpr e.symm]
  · rw [decide_eq_false e, beq_eq_false_iff_ne.mpr fun z => e z.symm]
section
variable {prog : Program} {w : World} {A : Around} {R : Result → Shared → Prop} {I : Addr} {fp wr : List Addr} {G : Array GenState → Array GenState → Prop} {n : Nat} {P : Nat → Value → Prop} {St : Nat → Shared → Prop}
/-- the loop that puts them in -/
theorem put_texts (W : WalksS prog w A.in1 I fp wr G n P St) (a : Addr) (away : a ∉ fp) (xs : List Str) (len : xs.length = n) (few : n + 1 < scanBound) (are : ∀ i v, P i v → ∃ t, v = .str (xs.getD i Str.empty) t) :
    ∀ (k i : Nat) (s : Shared), n - i = k → i ≤ n → St i s → s.heap.SetOf (PySem.strKind prog w) a (fun z => (xs.take i).any (· == z)) (unlike xs i) →
      (∀ s', Moved (a :: wr) G s s' → s'.heap.SetOf (PySem.strKind prog w) a (fun z => (xs.take n).any (· == z)) (unlike xs n) → R (.ok (.ret .none)) s') →
      codeAny (model prog w) A (.builtin "set.update.loop" ⟨[.ref a, .ref I], []⟩) R s := by
  have aw : a ∉ wr := fun z => away (W.sub _ z)
  have more : ∀ b ∈ wr, b ∈ a :: wr := fun b z => List.mem_cons_of_mem _ z
  have same : ∀ {s1 s2 : Shared} {S : Str → Bool} {c : Nat}, Moved wr G s1 s2 → s1.heap.SetOf (PySem.strKind prog w) a S c → s2.heap.SetOf (PySem.strKind prog w) a S c := fun m ⟨o, es, ep, t, ho, r⟩ => ⟨o, es, ep, t, m.heap a _ aw ho, r⟩
  intro k
  induction k with
  | zero =>
    intro i s hk hi st set fin
    obtain rfl : i = n := by omega
    refine codeAny_builtin PyProof.Rows.F.entry_set_update_loop ?_
    rw [Around.under_plainId PyProof.Rows.F.plain_set_update_loop _]
    show wpAny _ A.in1 (pyNext (.ref I) >>= fun _ => _) _ _ s
    exact wpAny_bind (W.done s _ _ st fun s1 m => wpAny_pure (fin s1 (m.mono more) (same m set)))
  | succ k ih =>
    intro i s hk hi st set fin
    have lt : i < n := by omega
    refine codeAny_builtin PyProof.Rows.F.entry_set_update_loop ?_
    rw [Around.under_plainId PyProof.Rows.F.plain_set_update_loop _]
    show wpAny _ A.in1 (pyNext (.ref I) >>= fun _ => _) _ _ s
    refine wpAny_bind (W.item i s _ _ lt st fun v s1 pv st1 m => ?_)
    obtain ⟨t, rfl⟩ := are i v pv
    have set1 := same m set
    show wpAny _ A.in1 (holding [Value.str (xs.getD i Str.empty) t] (setAdd a _) >>= fun _ => _) _ _ s1
    unfold setAdd
    have is_ : (PySem.strKind prog w).is (xs.getD i Str.empty) (.str (xs.getD i Str.empty) t) = true := PySem.strKind_is _ _ _ _
    refine wpAny_bind (wpAny_holding (wpAny_holding (wpAny_bind ((PySem.strKind prog w).pyHash is_ ?_))))
    have room : unlike xs i + 1 < scanBound := by have := unlike_le xs i; omega
    refine wpAny_setAddHashed_of (knd := PySem.strKind prog w) (s := { s1 with toks := s1.toks + 1 }) is_ rfl set1 room fun h' but set2 => ?_
    have set3 : h'.SetOf (PySem.strKind prog w) a (fun z => (xs.take (i + 1)).any (· == z)) (unlike xs (i + 1)) := SetOf_congr set2 (fun z => (take_any xs (by omega) z).symm) rfl
    have others : ∀ b, b ≠ a → ∀ o, s1.heap.get? b = some o → h'.get? b = some o := fun b ne o e => (but.2 b ne).trans e
    refine wpAny_pure ⟨plainId_quiet PyProof.Rows.F.plain_set_update_loop _, ih (i + 1) _ (by omega) lt (W.frame _ s1 _ _ st1 (Nat.le_succ _) fun b hb o e => others b (fun z => away (z ▸ hb)) o e) set3 fun s2 m2 set4 => ?_⟩
    exact fin s2 (Moved.trans W.gtrans ((m.mono more).then_heap (Nat.le_succ _) fun b o hb e => others b (fun z => hb (z ▸ List.mem_cons_self)) o e) m2) set4
end
end KS
set_option Elab.async false
set_option linter.all false
set_option maxRecDepth 100000
set_option maxHeartbeats 4000000
namespace KS
open PySem PySem.Spec PyProof.Rows L2
/-- what a set call asks of the thing that it walks -/
structure Walked (prog : Program) (w : World) (l : Addr) (T : String) (items : Array Value) (o : Obj) : Prop where
  cls : o.cls = .type T
  set : isSubtype (.type T) (.type "set") = pure false
  frz : isSubtype (.type T) (.type "frozenset") = pure false
  dct : (Value.type T == Value.type "dict") = false
  go : ∀ (A A1 : Around) (E : Value → Shared → Prop) (s : Shared) (Q : Value → Shared → Prop), A1.handled = none → s.heap.get? l = some o →
    (∀ (oi : Obj) (St : Nat → Shared → Prop), WalksS prog w A1 s.heap.objs.size [s.heap.objs.size, l] [s.heap.objs.size] (fun a b => b = a) items.size (fun i v => items[i]? = some v) St → St 0 { s with heap := s.heap.push oi } → Q (.ref s.heap.objs.size) { s with heap := s.heap.push oi }) →
    wpAny (model prog w) A (pyIter (.ref l)) Q E s
theorem walked_list {prog : Program} {w : World} {l : Addr} {items : Array Value} {o : Obj} (hc : o.cls = .type "list") {n : Nat} (hd : o.data = .seq items n) : Walked prog w l "list" items o where
  cls := hc
  set := PySem.F.sub_list_set
  frz := PySem.F.sub_list_frozenset
  dct := by decide
  go := fun A A1 E s Q hh ho k => by
    have isL : s.heap.IsList l items := ⟨o, ho, hc, n, hd⟩
    have ne : l ≠ s.heap.objs.size := Nat.ne_of_lt (Heap.lt_size ho)
    exact wpAny_pyIter_list isL (k _ _ (Walks.list hh _ l ne items).toS ⟨⟨_, Heap.get?_push_size _ rfl, rfl, rfl⟩, isL.push _⟩)
theorem walked_tuple {prog : Program} {w : World} {l : Addr} {items : Array Value} {o : Obj} (hc : o.cls = .type "tuple") {n : Nat} (hd : o.data = .seq items n) : Walked prog w l "tuple" items o where
  cls := hc
  set := PySem.F.sub_tuple_set
  frz := PySem.F.sub_tuple_frozenset
  dct := by decide
  go := fun A A1 E s Q hh ho k => by
    have isT : s.heap.IsTuple l items := ⟨o, ho, hc, n, hd⟩
    have ne : l ≠ s.heap.objs.size := Nat.ne_of_lt (Heap.lt_size ho)
    exact wpAny_pyIter_tuple isT (k _ _ (Walks.tuple hh _ l ne items).toS ⟨⟨_, Heap.get?_push_size _ rfl, rfl, rfl⟩, isT.push _⟩)
section
variable {prog : Program} {w : World} {A : Around} {E : Value → Shared → Prop} {s : Shared}
set_option maxHeartbeats 8000000 in
/-- set(x), x a list or a tuple of texts -/
theorem call_set_texts {l : Addr} {T : String} {items : Array Value} {ol : Obj} {xs : List Str} {Q : Value → Shared → Prop} (hh : A.handled = none) (hol : s.heap.get? l = some ol) (W : Walked prog w l T items ol) (are : ∀ i v, items[i]? = some v → ∃ t, v = Value.str (xs.getD i Str.empty) t) (len : xs.length = items.size) (few : items.size + 1 < scanBound)
    (h : ∀ (h' : Heap) (tk : Nat), h'.SetOf (PySem.strKind prog w) s.heap.objs.size (fun z => (xs.take items.size).any (· == z)) (unlike xs items.size) → (∀ b o, b < s.heap.objs.size → s.heap.get? b = some o → h'.get? b = some o) → Q (.ref s.heap.objs.size) { s with heap := h', toks := tk }) :
    wpAny (model prog w) A (call (.type "set") [.ref l]) Q E s := by
  obtain ⟨c, tl, mro⟩ := PySem.F.called_set.mro
  have made := PySem.F.called_set.made; have sub := PySem.F.called_set.sub
  refine wpAny_call (codeAny_of_tree ?_); show wpAny _ _ (callAny (.type "set") _) _ _ _
  refine wpAny_pure ⟨Code.quiet_builtin _ (by decide +kernel), codeAny_builtin PySem.F.entry_type_call ?_⟩; rw [Around.under_plain (weight_type_call_type "set" [.ref l] []) rfl]
  have a1 := PySem.F.called_set.notType; have a2 := PySem.F.called_set.canCreate; have a3 := PySem.F.typeCall_set_1 (.ref l)
  repeat (any_goals (first | assumption | wp_step))
  let e0 : Bool → Obj := fun led => { cls := .type "set", dict := none, data := .set #[] 0 (.fresh 0 0 led) }
  refine codeAny_mono (code_set_new_1 (.ref l) (E := E) (Q₁ := fun obj s1 => ∃ led : Bool, obj = .ref s.heap.objs.size ∧ s1 = { s with heap := s.heap.push (e0 led) }) fun led => ⟨led, rfl, rfl⟩) fun r s1 hr => ?_
  cases r with
  | error e => exact hr
  | ok fl => ?_
  cases fl with
  | next => exact hr.elim
  | brk => exact hr.elim
  | cont => exact hr.elim
  | ret obj => ?_
  obtain ⟨led, rfl, rfl⟩ := hr
  have here : (s.heap.push (e0 led)).get? s.heap.objs.size = some (e0 led) := Heap.get?_push_size _ rfl
  have ty : Shared.TypeIs { s with heap := s.heap.push (e0 led) } (.ref s.heap.objs.size) "set" := ⟨_, here, rfl⟩
  have b1 := PySem.F.called_set.init.lookup; have b2 := PySem.F.called_set.init.bind (.ref s.heap.objs.size)
  repeat (any_goals (first | assumption | wp_step))
  refine codeAny_mono (codeAny_call_builtin (R := wants (fun r s2 => r = .none ∧ ∃ h' tk, s2 = { s with heap := h', toks := tk } ∧ h'.SetOf (PySem.strKind prog w) s.heap.objs.size (fun z => (xs.take items.size).any (· == z)) (unlike xs items.size) ∧ (∀ b o, b < s.heap.objs.size → s.heap.get? b = some o → h'.get? b = some o)) E) PySem.F.called_set.init.plain PySem.F.entry_set_init (check_set_init_1 ty ?_)) fun r2 s2 hr2 => ?_
  · have hol1 : (s.heap.push (e0 led)).get? l = some ol := Heap.get?_push_of_some _ hol
    have lS : l < s.heap.objs.size := Heap.lt_size hol
    have quiet : A.in1.in1.in1.handled = none := by simp [hh]
    have size1 : (s.heap.push (e0 led)).objs.size = s.heap.objs.size + 1 := Heap.size_push ..
    have w1 := W.set; have w2 := W.frz; have w3 := W.dct; have go := W.go
    obtain ⟨ocls, odict, odata, oslots⟩ := ol
    obtain rfl : ocls = .type T := W.cls
    unfold Builtin.«set.__init__» noKeywords Builtin.Frozenset.updateFrom
    generalize hPI : pyIter = PI
    wp_walk
    subst hPI
    refine go _ A.in1.in1.in1 _ _ _ quiet hol1 fun oi St W1 st0 => wpAny_bind (wpAny_runValue ?_)
    have far : s.heap.objs.size ∉ [(s.heap.push (e0 led)).objs.size, l] := by
      rw [size1]
      intro m
      rcases List.mem_cons.mp m with z | m
      · exact absurd z (Nat.ne_of_lt (Nat.lt_succ_self _))
      · exact absurd (List.mem_singleton.mp m) (Nat.ne_of_gt lS)
    refine put_texts W1 s.heap.objs.size far xs len few are (items.size - 0) 0 _ rfl (Nat.zero_le _) st0 ?start fun s3 m3 set3 => ?fin
    case start =>
      have at2 : ((s.heap.push (e0 led)).push oi).get? s.heap.objs.size = some (e0 led) := Heap.get?_push_of_some _ here
      exact SetOf_congr ((setObjOf_fresh (knd := PySem.strKind prog w) led).setOf at2 (by unfold scanBound; omega)) (fun _ => rfl) rfl
    case fin =>
      obtain ⟨h3, g3, d3, tk3, os3⟩ := s3
      have eg : g3 = s.gens := m3.gens; have ed : d3 = s.drawn := m3.drawn; have eo : os3 = s.os := m3.os
      subst eg ed eo
      refine wpAny_pure (wpAny_pure ⟨rfl, h3, tk3, rfl, set3, fun b o hb e => ?_⟩)
      refine m3.heap b o (fun m => ?_) (Heap.get?_push_of_some _ (Heap.get?_push_of_some _ e))
      rcases List.mem_cons.mp m with z | m
      · exact absurd z (Nat.ne_of_lt hb)
      · have z := List.mem_singleton.mp m
        rw [size1] at z
        exact absurd z (Nat.ne_of_lt (Nat.lt_succ_of_lt hb))
  · cases r2 with
    | error e => exact hr2
    | ok fl2 => ?_
    cases fl2 with
    | next => exact hr2.elim
    | brk => exact hr2.elim
    | cont => exact hr2.elim
    | ret v2 => ?_
    obtain ⟨rfl, h3, tk3, rfl, set3, kept⟩ := hr2
    repeat (any_goals (first | assumption | wp_step))
    exact h _ _ set3 kept
end
end KS
set_option Elab.async false
set_option linter.all false
set_option maxRecDepth 100000
set_option maxHeartbeats 4000000
namespace KS
open PySem PySem.Spec PyProof.Rows L2 Evl
theorem unlike_two (a b : Str) : unlike [a, b] 2 = if a = b then 1 else 2 := by
  show (if ([a] : List Str).any (· == b) = true then (if ([] : List Str).any (· == a) = true then 0 else 0 + 1) else _ + 1) = _
  by_cases e : a = b
  · subst e
    simp [unlike]
  · simp [unlike, e]
/-- len(set(xs)), xs a list or a tuple of texts -/
def tLenT (K : PySem.W.Frag) (ta : TE) : TE := fun σ H Q => ta σ H fun x H1 => ∃ (l : Addr) (xs : List Str), x = .ref l ∧ (SqL K H1 l (xs.map V.str) ∨ SqT K H1 l (xs.map V.str)) ∧ xs.length ≤ 1000 ∧ Q (.int (unlike xs xs.length : Nat)) H1
theorem texts_at : ∀ {xs : List Str} {us : List Value}, Vals (xs.map V.str) us → ∀ (i : Nat) (v : Value), us[i]? = some v → ∃ t, v = Value.str (xs.getD i Str.empty) t
  | [], _, .nil, _, _, h => by simp at h
  | x :: xs, _, .cons r t, 0, v, h => by
    obtain ⟨k, rfl⟩ := r
    obtain rfl := Option.some.inj h
    exact ⟨k, rfl⟩
  | x :: xs, _, .cons r t, i + 1, v, h => texts_at t i v h
theorem pe_lenT {X : Cx} {K : PySem.W.Frag} {a : Expr} {ta : TE} {p p2 q pos : Pos} (hK : X.K = K) (hc : X.calm = true) (hg : Gl X "len") (hm : X.mg "len" = none) (hg2 : Gl X "set") (hm2 : X.mg "set" = none) (ha : PE X a ta)
    (one : starEach [a] X.env = (false, eval a X.env) :: starEach [] X.env := by rfl) : PE X (.Call (.Name "len" p) [.Call (.Name "set" p2) [a] [] q] [] pos) (tLenT K ta) where
  run := fun pins s σ H Q I h => by
    subst hK
    refine Call_ (ld_blt I hg hm boot_len (callWith_builtin1 (args_cons ?_ rfl) rfl rfl))
    refine Call_ (ld_blt I hg2 hm2 boot_set (callWith_type1 (args_cons (thn (ha.run pins s σ H _ I h) fun v s1 ⟨x, H1, I1, r1, got⟩ => args_nil ?_) one) one rfl))
    obtain ⟨l, xs, rfl, sq, few, got⟩ := got
    obtain rfl : v = Value.ref l := r1
    have quiet : X.A.handled = none := I1.ok.hd hc
    have fin : ∀ (us : List Value), Vals (xs.map V.str) us → ∀ (h' : Heap) (tk : Nat), h'.SetOf (PySem.strKind X.prog X.w) s1.heap.objs.size (fun z => (xs.take us.toArray.size).any (· == z)) (unlike xs us.toArray.size) → (∀ b o, b < s1.heap.objs.size → s1.heap.get? b = some o → h'.get? b = some o) →
        wpAny (model X.prog X.w) X.A (spliced (backTo pos (starEach [] X.env))) (fun vs s2 => wpAny (model X.prog X.w) X.A (call (.builtin "len") (Value.ref s1.heap.objs.size :: vs)) (EP X pins σ Q) X.xe s2) X.xe { s1 with heap := h', toks := tk } := fun us r h' tk set kept => by
      have len : us.toArray.size = xs.length := by rw [List.size_toArray, ← r.length, List.length_map]
      rw [len] at set
      obtain ⟨o, es, ep, t, ho, ex, hd, _, _, _, hf, hn⟩ := set
      have J : Inv X pins σ H1 { s1 with heap := h', toks := tk } := I1.kept fun b o e => kept b o (Heap.lt_size e) e
      have small := unlike_le xs xs.length
      exact args_nil (call_len_set ho ex hd hf (by rw [hn] <;> omega) ⟨.int (unlike xs xs.length : Nat), H1, J.tok _, ⟨_, by rw [hn]⟩, got⟩)
    rcases sq with sq | sq
    · obtain ⟨us, r, ⟨o, n, ho, hcl, _, hd⟩, _⟩ := I1.list sq
      have len : xs.length = us.toArray.size := by rw [List.size_toArray, ← r.length, List.length_map]
      exact call_set_texts quiet ho (walked_list hcl hd) (fun i v hv => texts_at r i v (by simpa using hv)) len (by unfold scanBound; omega) fun h' tk set kept => fin us r h' tk set kept
    · obtain ⟨us, r, ⟨o, ho, hcl, n, hd⟩, _⟩ := I1.tuple sq
      have len : xs.length = us.toArray.size := by rw [List.size_toArray, ← r.length, List.length_map]
      exact call_set_texts quiet ho (walked_tuple hcl hd) (fun i v hv => texts_at r i v (by simpa using hv)) len (by unfold scanBound; omega) fun h' tk set kept => fin us r h' tk set kept
end KS
set_option Elab.async false
set_option linter.all false
set_option maxRecDepth 100000
set_option maxHeartbeats 4000000
namespace KG
open PySem L2
def top (i : Nat) : Stmt := PySem.Challenge.pw_modesdown_k35_lines_let.main.body.getD i (.Pass ⟨0, 0, 0, 0⟩)
abbrev s__wall : Stmt := top 0
abbrev s_is_whole : Stmt := top 3
abbrev s_is_whole_to : Stmt := top 4
abbrev s_is_name : Stmt := top 5
abbrev s_are_unlike_names : Stmt := top 6
abbrev s_BadModeD_initD : Stmt := inClass (top 10) 0
abbrev s_BadKindD_initD : Stmt := inClass (top 11) 0
abbrev s_BadTextD_initD : Stmt := inClass (top 12) 0
abbrev s_pattern_in : Stmt := top 17
abbrev s_bits_of : Stmt := top 18
abbrev s_weight_of : Stmt := top 19
abbrev s_ModeD_initD : Stmt := inClass (top 20) 1
abbrev s_Mode_read : Stmt := inClass (top 20) 2
abbrev s_Mode_of : Stmt := inClass (top 20) 3
abbrev s_Mode_uniform : Stmt := inClass (top 20) 4
abbrev s_Mode_number : Stmt := inClass (top 20) 5
abbrev s_Mode_digits : Stmt := inClass (top 20) 6
abbrev s_Mode_pattern : Stmt := inClass (top 20) 7
abbrev s_Mode_with_pattern : Stmt := inClass (top 20) 8
abbrev s_ModeD_orD : Stmt := inClass (top 20) 9
abbrev s_ModeD_rorD : Stmt := inClass (top 20) 10
abbrev s_ModeD_andD : Stmt := inClass (top 20) 11
abbrev s_ModeD_randD : Stmt := inClass (top 20) 12
abbrev s_ModeD_xorD : Stmt := inClass (top 20) 13
abbrev s_ModeD_rxorD : Stmt := inClass (top 20) 14
abbrev s_ModeD_invertD : Stmt := inClass (top 20) 15
abbrev s_ModeD_containsD : Stmt := inClass (top 20) 16
abbrev s_ModeD_lenD : Stmt := inClass (top 20) 17
abbrev s_ModeD_boolD : Stmt := inClass (top 20) 18
abbrev s_ModeD_eqD : Stmt := inClass (top 20) 19
abbrev s_ModeD_strD : Stmt := inClass (top 20) 20
abbrev s_ModeD_reprD : Stmt := inClass (top 20) 21
abbrev s_may_stand : Stmt := top 21
abbrev s_number_of : Stmt := top 22
abbrev s_are_told : Stmt := top 26
abbrev s_is_mode : Stmt := top 27
abbrev s_ascending : Stmt := top 28
abbrev s_LineD_initD : Stmt := inClass (top 29) 0
abbrev s_Line_form : Stmt := inClass (top 29) 1
abbrev s_Line_owners : Stmt := inClass (top 29) 2
abbrev s_Line_groups : Stmt := inClass (top 29) 3
abbrev s_Line_must : Stmt := inClass (top 29) 4
abbrev s_Line_never : Stmt := inClass (top 29) 5
abbrev s_Line_lets_names : Stmt := inClass (top 29) 6
abbrev s_Line_lets : Stmt := inClass (top 29) 7
abbrev s_Line_patterns : Stmt := inClass (top 29) 8
abbrev s_LineD_eqD : Stmt := inClass (top 29) 9
abbrev s__law_pen : Stmt := top 31
abbrev s__law_draw : Stmt := top 32
abbrev s__law_pick : Stmt := top 33
abbrev s__law_names : Stmt := top 34
abbrev s__law_line : Stmt := top 35
abbrev s__law_line_made : Stmt := top 36
abbrev s__law_lets : Stmt := top 37
abbrev s__law_patterns : Stmt := top 38
abbrev s__law_lets_right : Stmt := top 39
abbrev s__law_patterns_right : Stmt := top 40
abbrev s_law : Stmt := top 41
abbrev n__wall : List Str := ["k"]
theorem sc__wall : FnScope n__wall ["k"] (defScope s__wall) := ⟨rfl, rfl, rfl, by decide +kernel, rfl, by decide +kernel, by decide +kernel⟩
abbrev n_is_whole : List Str := ["value"]
theorem sc_is_whole : FnScope n_is_whole ["value"] (defScope s_is_whole) := ⟨rfl, rfl, rfl, by decide +kernel, rfl, by decide +kernel, by decide +kernel⟩
abbrev n_is_whole_to : List Str := ["value", "most"]
theorem sc_is_whole_to : FnScope n_is_whole_to ["value", "most"] (defScope s_is_whole_to) := ⟨rfl, rfl, rfl, by decide +kernel, rfl, by decide +kernel, by decide +kernel⟩
abbrev n_is_name : List Str := ["value", "letter"]
theorem sc_is_name : FnScope n_is_name ["value"] (defScope s_is_name) := ⟨rfl, rfl, rfl, by decide +kernel, rfl, by decide +kernel, by decide +kernel⟩
abbrev n_are_unlike_names : List Str := ["values", "value"]
theorem sc_are_unlike_names : FnScope n_are_unlike_names ["values"] (defScope s_are_unlike_names) := ⟨rfl, rfl, rfl, by decide +kernel, rfl, by decide +kernel, by decide +kernel⟩
abbrev n_BadModeD_initD : List Str := ["self", "part"]
theorem sc_BadModeD_initD : FnScope n_BadModeD_initD ["self", "part"] (defScope s_BadModeD_initD) := ⟨rfl, rfl, rfl, by decide +kernel, rfl, by decide +kernel, by decide +kernel⟩
abbrev n_BadKindD_initD : List Str := ["self", "at"]
theorem sc_BadKindD_initD : FnScope n_BadKindD_initD ["self", "at"] (defScope s_BadKindD_initD) := ⟨rfl, rfl, rfl, by decide +kernel, rfl, by decide +kernel, by decide +kernel⟩
abbrev n_BadTextD_initD : List Str := ["self", "line", "word"]
theorem sc_BadTextD_initD : FnScope n_BadTextD_initD ["self", "line", "word"] (defScope s_BadTextD_initD) := ⟨rfl, rfl, rfl, by decide +kernel, rfl, by decide +kernel, by decide +kernel⟩
abbrev n_pattern_in : List Str := ["number", "weight", "bits"]
theorem sc_pattern_in : FnScope n_pattern_in ["number", "weight"] (defScope s_pattern_in) := ⟨rfl, rfl, rfl, by decide +kernel, rfl, by decide +kernel, by decide +kernel⟩
abbrev n_bits_of : List Str := ["pattern", "weight"]
theorem sc_bits_of : FnScope n_bits_of ["pattern", "weight"] (defScope s_bits_of) := ⟨rfl, rfl, rfl, by decide +kernel, rfl, by decide +kernel, by decide +kernel⟩
abbrev n_weight_of : List Str := ["letter"]
theorem sc_weight_of : FnScope n_weight_of ["letter"] (defScope s_weight_of) := ⟨rfl, rfl, rfl, by decide +kernel, rfl, by decide +kernel, by decide +kernel⟩
abbrev n_ModeD_initD : List Str := ["self", "number"]
theorem sc_ModeD_initD : FnScope n_ModeD_initD ["self", "number"] (defScope s_ModeD_initD) := ⟨rfl, rfl, rfl, by decide +kernel, rfl, by decide +kernel, by decide +kernel⟩
abbrev n_Mode_read : List Str := ["cls", "text", "number", "at", "sign"]
theorem sc_Mode_read : FnScope n_Mode_read ["cls", "text"] (defScope s_Mode_read) := ⟨rfl, rfl, rfl, by decide +kernel, rfl, by decide +kernel, by decide +kernel⟩
abbrev n_Mode_of : List Str := ["owner", "group", "others", "part", "digit"]
theorem sc_Mode_of : FnScope n_Mode_of ["owner", "group", "others"] (defScope s_Mode_of) := ⟨rfl, rfl, rfl, by decide +kernel, rfl, by decide +kernel, by decide +kernel⟩
abbrev n_Mode_uniform : List Str := ["pattern"]
theorem sc_Mode_uniform : FnScope n_Mode_uniform ["pattern"] (defScope s_Mode_uniform) := ⟨rfl, rfl, rfl, by decide +kernel, rfl, by decide +kernel, by decide +kernel⟩
abbrev n_Mode_number : List Str := ["self"]
theorem sc_Mode_number : FnScope n_Mode_number ["self"] (defScope s_Mode_number) := ⟨rfl, rfl, rfl, by decide +kernel, rfl, by decide +kernel, by decide +kernel⟩
abbrev n_Mode_digits : List Str := ["self"]
theorem sc_Mode_digits : FnScope n_Mode_digits ["self"] (defScope s_Mode_digits) := ⟨rfl, rfl, rfl, by decide +kernel, rfl, by decide +kernel, by decide +kernel⟩
abbrev n_Mode_pattern : List Str := ["self", "letter"]
theorem sc_Mode_pattern : FnScope n_Mode_pattern ["self", "letter"] (defScope s_Mode_pattern) := ⟨rfl, rfl, rfl, by decide +kernel, rfl, by decide +kernel, by decide +kernel⟩
abbrev n_Mode_with_pattern : List Str := ["self", "letter", "pattern", "weight", "kept"]
theorem sc_Mode_with_pattern : FnScope n_Mode_with_pattern ["self", "letter", "pattern"] (defScope s_Mode_with_pattern) := ⟨rfl, rfl, rfl, by decide +kernel, rfl, by decide +kernel, by decide +kernel⟩
abbrev n_ModeD_orD : List Str := ["self", "other"]
theorem sc_ModeD_orD : FnScope n_ModeD_orD ["self", "other"] (defScope s_ModeD_orD) := ⟨rfl, rfl, rfl, by decide +kernel, rfl, by decide +kernel, by decide +kernel⟩
abbrev n_ModeD_rorD : List Str := ["self", "other"]
theorem sc_ModeD_rorD : FnScope n_ModeD_rorD ["self", "other"] (defScope s_ModeD_rorD) := ⟨rfl, rfl, rfl, by decide +kernel, rfl, by decide +kernel, by decide +kernel⟩
abbrev n_ModeD_andD : List Str := ["self", "other"]
theorem sc_ModeD_andD : FnScope n_ModeD_andD ["self", "other"] (defScope s_ModeD_andD) := ⟨rfl, rfl, rfl, by decide +kernel, rfl, by decide +kernel, by decide +kernel⟩
abbrev n_ModeD_randD : List Str := ["self", "other"]
theorem sc_ModeD_randD : FnScope n_ModeD_randD ["self", "other"] (defScope s_ModeD_randD) := ⟨rfl, rfl, rfl, by decide +kernel, rfl, by decide +kernel, by decide +kernel⟩
abbrev n_ModeD_xorD : List Str := ["self", "other"]
theorem sc_ModeD_xorD : FnScope n_ModeD_xorD ["self", "other"] (defScope s_ModeD_xorD) := ⟨rfl, rfl, rfl, by decide +kernel, rfl, by decide +kernel, by decide +kernel⟩
abbrev n_ModeD_rxorD : List Str := ["self", "other"]
theorem sc_ModeD_rxorD : FnScope n_ModeD_rxorD ["self", "other"] (defScope s_ModeD_rxorD) := ⟨rfl, rfl, rfl, by decide +kernel, rfl, by decide +kernel, by decide +kernel⟩
abbrev n_ModeD_invertD : List Str := ["self"]
theorem sc_ModeD_invertD : FnScope n_ModeD_invertD ["self"] (defScope s_ModeD_invertD) := ⟨rfl, rfl, rfl, by decide +kernel, rfl, by decide +kernel, by decide +kernel⟩
abbrev n_ModeD_containsD : List Str := ["self", "bit", "bits"]
theorem sc_ModeD_containsD : FnScope n_ModeD_containsD ["self", "bit"] (defScope s_ModeD_containsD) := ⟨rfl, rfl, rfl, by decide +kernel, rfl, by decide +kernel, by decide +kernel⟩
abbrev n_ModeD_lenD : List Str := ["self", "bit"]
theorem sc_ModeD_lenD : FnScope n_ModeD_lenD ["self"] (defScope s_ModeD_lenD) := ⟨rfl, rfl, rfl, by decide +kernel, rfl, by decide +kernel, by decide +kernel⟩
abbrev n_ModeD_boolD : List Str := ["self"]
theorem sc_ModeD_boolD : FnScope n_ModeD_boolD ["self"] (defScope s_ModeD_boolD) := ⟨rfl, rfl, rfl, by decide +kernel, rfl, by decide +kernel, by decide +kernel⟩
abbrev n_ModeD_eqD : List Str := ["self", "other"]
theorem sc_ModeD_eqD : FnScope n_ModeD_eqD ["self", "other"] (defScope s_ModeD_eqD) := ⟨rfl, rfl, rfl, by decide +kernel, rfl, by decide +kernel, by decide +kernel⟩
abbrev n_ModeD_strD : List Str := ["self", "sign", "bit"]
theorem sc_ModeD_strD : FnScope n_ModeD_strD ["self"] (defScope s_ModeD_strD) := ⟨rfl, rfl, rfl, by decide +kernel, rfl, by decide +kernel, by decide +kernel⟩
abbrev n_ModeD_reprD : List Str := ["self"]
theorem sc_ModeD_reprD : FnScope n_ModeD_reprD ["self"] (defScope s_ModeD_reprD) := ⟨rfl, rfl, rfl, by decide +kernel, rfl, by decide +kernel, by decide +kernel⟩
abbrev n_may_stand : List Str := ["value"]
theorem sc_may_stand : FnScope n_may_stand ["value"] (defScope s_may_stand) := ⟨rfl, rfl, rfl, by decide +kernel, rfl, by decide +kernel, by decide +kernel⟩
abbrev n_number_of : List Str := ["mode"]
theorem sc_number_of : FnScope n_number_of ["mode"] (defScope s_number_of) := ⟨rfl, rfl, rfl, by decide +kernel, rfl, by decide +kernel, by decide +kernel⟩
abbrev n_are_told : List Str := ["names"]
theorem sc_are_told : FnScope n_are_told ["names"] (defScope s_are_told) := ⟨rfl, rfl, rfl, by decide +kernel, rfl, by decide +kernel, by decide +kernel⟩
abbrev n_is_mode : List Str := ["value"]
theorem sc_is_mode : FnScope n_is_mode ["value"] (defScope s_is_mode) := ⟨rfl, rfl, rfl, by decide +kernel, rfl, by decide +kernel, by decide +kernel⟩
abbrev n_ascending : List Str := ["names"]
theorem sc_ascending : FnScope n_ascending ["names"] (defScope s_ascending) := ⟨rfl, rfl, rfl, by decide +kernel, rfl, by decide +kernel, by decide +kernel⟩
abbrev n_LineD_initD : List Str := ["self", "form", "owners", "groups", "must", "never"]
theorem sc_LineD_initD : FnScope n_LineD_initD ["self", "form", "owners", "groups", "must", "never"] (defScope s_LineD_initD) := ⟨rfl, rfl, rfl, by decide +kernel, rfl, by decide +kernel, by decide +kernel⟩
abbrev n_Line_form : List Str := ["self"]
theorem sc_Line_form : FnScope n_Line_form ["self"] (defScope s_Line_form) := ⟨rfl, rfl, rfl, by decide +kernel, rfl, by decide +kernel, by decide +kernel⟩
abbrev n_Line_owners : List Str := ["self"]
theorem sc_Line_owners : FnScope n_Line_owners ["self"] (defScope s_Line_owners) := ⟨rfl, rfl, rfl, by decide +kernel, rfl, by decide +kernel, by decide +kernel⟩
abbrev n_Line_groups : List Str := ["self"]
theorem sc_Line_groups : FnScope n_Line_groups ["self"] (defScope s_Line_groups) := ⟨rfl, rfl, rfl, by decide +kernel, rfl, by decide +kernel, by decide +kernel⟩
abbrev n_Line_must : List Str := ["self"]
theorem sc_Line_must : FnScope n_Line_must ["self"] (defScope s_Line_must) := ⟨rfl, rfl, rfl, by decide +kernel, rfl, by decide +kernel, by decide +kernel⟩
abbrev n_Line_never : List Str := ["self"]
theorem sc_Line_never : FnScope n_Line_never ["self"] (defScope s_Line_never) := ⟨rfl, rfl, rfl, by decide +kernel, rfl, by decide +kernel, by decide +kernel⟩
abbrev n_Line_lets_names : List Str := ["self", "owner", "group", "owned"]
theorem sc_Line_lets_names : FnScope n_Line_lets_names ["self", "owner", "group"] (defScope s_Line_lets_names) := ⟨rfl, rfl, rfl, by decide +kernel, rfl, by decide +kernel, by decide +kernel⟩
abbrev n_Line_lets : List Str := ["self", "form", "mode", "owner", "group", "number", "must"]
theorem sc_Line_lets : FnScope n_Line_lets ["self", "form", "mode", "owner", "group"] (defScope s_Line_lets) := ⟨rfl, rfl, rfl, by decide +kernel, rfl, by decide +kernel, by decide +kernel⟩
abbrev n_Line_patterns : List Str := ["self", "letter", "weight", "must", "never", "pattern"]
theorem sc_Line_patterns : FnScope n_Line_patterns ["self", "letter"] (defScope s_Line_patterns) := ⟨rfl, rfl, rfl, by decide +kernel, rfl, by decide +kernel, by decide +kernel⟩
abbrev n_LineD_eqD : List Str := ["self", "other"]
theorem sc_LineD_eqD : FnScope n_LineD_eqD ["self", "other"] (defScope s_LineD_eqD) := ⟨rfl, rfl, rfl, by decide +kernel, rfl, by decide +kernel, by decide +kernel⟩
abbrev n__law_pen : List Str := ["_law_script"]
theorem sc__law_pen : FnScope n__law_pen ["_law_script"] (defScope s__law_pen) := ⟨rfl, rfl, rfl, by decide +kernel, rfl, by decide +kernel, by decide +kernel⟩
abbrev n__law_draw : List Str := ["_law_pen_here", "_law_many", "_law_digit", "_law_at", "_law_cell", "_law_great", "_law_mixed"]
theorem sc__law_draw : FnScope n__law_draw ["_law_pen_here", "_law_many"] (defScope s__law_draw) := ⟨rfl, rfl, rfl, by decide +kernel, rfl, by decide +kernel, by decide +kernel⟩
abbrev n__law_pick : List Str := ["_law_pen_here", "_law_some"]
theorem sc__law_pick : FnScope n__law_pick ["_law_pen_here", "_law_some"] (defScope s__law_pick) := ⟨rfl, rfl, rfl, by decide +kernel, rfl, by decide +kernel, by decide +kernel⟩
abbrev n__law_names : List Str := ["_law_pen_here", "_law_many", "_law_letters", "_law_k", "_law_stem", "_law_first", "_law_hop", "_law_found", "_law_sign"]
theorem sc__law_names : FnScope n__law_names ["_law_pen_here", "_law_many"] (defScope s__law_names) := ⟨rfl, rfl, rfl, by decide +kernel, rfl, by decide +kernel, by decide +kernel⟩
abbrev n__law_line : List Str := ["_law_pen_here", "_law_names_here", "_law_owners", "_law_groups", "_law_must", "_law_never"]
theorem sc__law_line : FnScope n__law_line ["_law_pen_here", "_law_names_here"] (defScope s__law_line) := ⟨rfl, rfl, rfl, by decide +kernel, rfl, by decide +kernel, by decide +kernel⟩
abbrev n__law_line_made : List Str := ["_law_told", "_law_form_so", "_law_owners", "_law_groups", "_law_must", "_law_never"]
theorem sc__law_line_made : FnScope n__law_line_made ["_law_told"] (defScope s__law_line_made) := ⟨rfl, rfl, rfl, by decide +kernel, rfl, by decide +kernel, by decide +kernel⟩
abbrev n__law_lets : List Str := ["_law_told", "_law_sort", "_law_number", "_law_holder", "_law_team"]
theorem sc__law_lets : FnScope n__law_lets ["_law_told", "_law_sort", "_law_number", "_law_holder", "_law_team"] (defScope s__law_lets) := ⟨rfl, rfl, rfl, by decide +kernel, rfl, by decide +kernel, by decide +kernel⟩
abbrev n__law_patterns : List Str := ["_law_told", "_law_letter_so", "_law_place", "_law_found", "_law_pattern", "_law_bits", "_law_at", "_law_mask"]
theorem sc__law_patterns : FnScope n__law_patterns ["_law_told", "_law_letter_so"] (defScope s__law_patterns) := ⟨rfl, rfl, rfl, by decide +kernel, rfl, by decide +kernel, by decide +kernel⟩
abbrev n__law_lets_right : List Str := ["_law_pen_here", "_law_told", "_law_line_here", "_law_names_here", "_law_bit", "_law_some", "_law_number", "_law_sort", "_law_holder", "_law_team", "_law_found"]
theorem sc__law_lets_right : FnScope n__law_lets_right ["_law_pen_here", "_law_told", "_law_line_here", "_law_names_here"] (defScope s__law_lets_right) := ⟨rfl, rfl, rfl, by decide +kernel, rfl, by decide +kernel, by decide +kernel⟩
abbrev n__law_patterns_right : List Str := ["_law_pen_here", "_law_told", "_law_line_here", "_law_names_here", "_law_bits", "_law_sign", "_law_due", "_law_found", "_law_holder"]
theorem sc__law_patterns_right : FnScope n__law_patterns_right ["_law_pen_here", "_law_told", "_law_line_here", "_law_names_here"] (defScope s__law_patterns_right) := ⟨rfl, rfl, rfl, by decide +kernel, rfl, by decide +kernel, by decide +kernel⟩
abbrev n_law : List Str := ["_law_script", "_law_pen_here", "_law_turn", "_law_names_here", "_law_told", "_law_line_here", "_law_again"]
theorem sc_law : FnScope n_law ["_law_script"] (defScope s_law) := ⟨rfl, rfl, rfl, by decide +kernel, rfl, by decide +kernel, by decide +kernel⟩
end KG
set_option Elab.async false
set_option linter.all false
set_option maxRecDepth 100000
set_option maxHeartbeats 4000000
namespace KG
open PySem PySem.Spec PyProof.Rows L2 Evl
structure Ads where
  f_is_whole : Addr
  d_is_whole : FuncData
  f_is_whole_to : Addr
  d_is_whole_to : FuncData
  f_is_name : Addr
  d_is_name : FuncData
  f_are_unlike_names : Addr
  d_are_unlike_names : FuncData
  f_pattern_in : Addr
  d_pattern_in : FuncData
  f_bits_of : Addr
  d_bits_of : FuncData
  f_weight_of : Addr
  d_weight_of : FuncData
  f_number_of : Addr
  d_number_of : FuncData
  f_are_told : Addr
  d_are_told : FuncData
  f_is_mode : Addr
  d_is_mode : FuncData
  f_ascending : Addr
  d_ascending : FuncData
  f__law_pen : Addr
  d__law_pen : FuncData
  f__law_draw : Addr
  d__law_draw : FuncData
  f__law_pick : Addr
  d__law_pick : FuncData
  f__law_names : Addr
  d__law_names : FuncData
  f__law_line : Addr
  d__law_line : FuncData
  f__law_line_made : Addr
  d__law_line_made : FuncData
  f__law_lets : Addr
  d__law_lets : FuncData
  f__law_patterns : Addr
  d__law_patterns : FuncData
  f__law_lets_right : Addr
  d__law_lets_right : FuncData
  f__law_patterns_right : Addr
  d__law_patterns_right : FuncData
  f_Mode : Addr
  f_ModeD_initD : Addr
  d_ModeD_initD : FuncData
  f_Mode_number : Addr
  d_Mode_number : FuncData
  p_Mode_number : Addr
  f_Mode_with_pattern : Addr
  d_Mode_with_pattern : FuncData
  f_Line : Addr
  f_LineD_initD : Addr
  d_LineD_initD : FuncData
  f_Line_lets_names : Addr
  d_Line_lets_names : FuncData
  f_Line_lets : Addr
  d_Line_lets : FuncData
  f_Line_patterns : Addr
  d_Line_patterns : FuncData
  k_FORMS : Addr
  k_PATTERNS : Addr
  k_WEIGHTS : Addr
structure Txt (w : World) (K : PySem.W.Frag) (mg : Str → Option Value) (a : Ads) : Prop where
  b_isinstance : mg "isinstance" = none
  b_int : mg "int" = none
  b_str : mg "str" = none
  b_bool : mg "bool" = none
  b_list : mg "list" = none
  b_len : mg "len" = none
  b_abs : mg "abs" = none
  b_range : mg "range" = none
  b_tuple : mg "tuple" = none
  b_all : mg "all" = none
  b_set : mg "set" = none
  b_sorted : mg "sorted" = none
  b_repr : mg "repr" = none
  mg_is_whole : mg "is_whole" = some (.ref a.f_is_whole)
  fn_is_whole : Fun K "is_whole" "is_whole" s_is_whole a.f_is_whole a.d_is_whole
  mg_is_whole_to : mg "is_whole_to" = some (.ref a.f_is_whole_to)
  fn_is_whole_to : Fun K "is_whole_to" "is_whole_to" s_is_whole_to a.f_is_whole_to a.d_is_whole_to
  mg_is_name : mg "is_name" = some (.ref a.f_is_name)
  fn_is_name : Fun K "is_name" "is_name" s_is_name a.f_is_name a.d_is_name
  mg_are_unlike_names : mg "are_unlike_names" = some (.ref a.f_are_unlike_names)
  fn_are_unlike_names : Fun K "are_unlike_names" "are_unlike_names" s_are_unlike_names a.f_are_unlike_names a.d_are_unlike_names
  mg_pattern_in : mg "pattern_in" = some (.ref a.f_pattern_in)
  fn_pattern_in : Fun K "pattern_in" "pattern_in" s_pattern_in a.f_pattern_in a.d_pattern_in
  mg_bits_of : mg "bits_of" = some (.ref a.f_bits_of)
  fn_bits_of : Fun K "bits_of" "bits_of" s_bits_of a.f_bits_of a.d_bits_of
  mg_weight_of : mg "weight_of" = some (.ref a.f_weight_of)
  fn_weight_of : Fun K "weight_of" "weight_of" s_weight_of a.f_weight_of a.d_weight_of
  mg_number_of : mg "number_of" = some (.ref a.f_number_of)
  fn_number_of : Fun K "number_of" "number_of" s_number_of a.f_number_of a.d_number_of
  mg_are_told : mg "are_told" = some (.ref a.f_are_told)
  fn_are_told : Fun K "are_told" "are_told" s_are_told a.f_are_told a.d_are_told
  mg_is_mode : mg "is_mode" = some (.ref a.f_is_mode)
  fn_is_mode : Fun K "is_mode" "is_mode" s_is_mode a.f_is_mode a.d_is_mode
  mg_ascending : mg "ascending" = some (.ref a.f_ascending)
  fn_ascending : Fun K "ascending" "ascending" s_ascending a.f_ascending a.d_ascending
  mg__law_pen : mg "_law_pen" = some (.ref a.f__law_pen)
  fn__law_pen : Fun K "_law_pen" "_law_pen" s__law_pen a.f__law_pen a.d__law_pen
  mg__law_draw : mg "_law_draw" = some (.ref a.f__law_draw)
  fn__law_draw : Fun K "_law_draw" "_law_draw" s__law_draw a.f__law_draw a.d__law_draw
  mg__law_pick : mg "_law_pick" = some (.ref a.f__law_pick)
  fn__law_pick : Fun K "_law_pick" "_law_pick" s__law_pick a.f__law_pick a.d__law_pick
  mg__law_names : mg "_law_names" = some (.ref a.f__law_names)
  fn__law_names : Fun K "_law_names" "_law_names" s__law_names a.f__law_names a.d__law_names
  mg__law_line : mg "_law_line" = some (.ref a.f__law_line)
  fn__law_line : Fun K "_law_line" "_law_line" s__law_line a.f__law_line a.d__law_line
  mg__law_line_made : mg "_law_line_made" = some (.ref a.f__law_line_made)
  fn__law_line_made : Fun K "_law_line_made" "_law_line_made" s__law_line_made a.f__law_line_made a.d__law_line_made
  mg__law_lets : mg "_law_lets" = some (.ref a.f__law_lets)
  fn__law_lets : Fun K "_law_lets" "_law_lets" s__law_lets a.f__law_lets a.d__law_lets
  mg__law_patterns : mg "_law_patterns" = some (.ref a.f__law_patterns)
  fn__law_patterns : Fun K "_law_patterns" "_law_patterns" s__law_patterns a.f__law_patterns a.d__law_patterns
  mg__law_lets_right : mg "_law_lets_right" = some (.ref a.f__law_lets_right)
  fn__law_lets_right : Fun K "_law_lets_right" "_law_lets_right" s__law_lets_right a.f__law_lets_right a.d__law_lets_right
  mg__law_patterns_right : mg "_law_patterns_right" = some (.ref a.f__law_patterns_right)
  fn__law_patterns_right : Fun K "_law_patterns_right" "_law_patterns_right" s__law_patterns_right a.f__law_patterns_right a.d__law_patterns_right
  mg_Mode : mg "Mode" = some (.ref a.f_Mode)
  c_Mode : Cls K a.f_Mode
  n_number_Mode : NoAttr K a.f_Mode "_number"
  mk_Mode : Mk K a.f_Mode a.f_ModeD_initD
  fn_ModeD_initD : Fun K "__init__" "Mode.__init__" s_ModeD_initD a.f_ModeD_initD a.d_ModeD_initD
  p_Mode_number : PropOf K a.f_Mode "number" a.p_Mode_number a.f_Mode_number
  fn_Mode_number : Fun K "number" "Mode.number" s_Mode_number a.f_Mode_number a.d_Mode_number
  m_Mode_with_pattern : Meth K a.f_Mode "with_pattern" a.f_Mode_with_pattern
  fn_Mode_with_pattern : Fun K "with_pattern" "Mode.with_pattern" s_Mode_with_pattern a.f_Mode_with_pattern a.d_Mode_with_pattern
  r_Mode : ClX.CRead K a.f_Mode (.type "type")
  k_Mode_MOST : ∃ t, ClX.CVal K a.f_Mode (.type "type") "MOST" (.int 511) (.int 511 t)
  ia_Mode : PySem.W.findIn K (.ref a.f_Mode) "__class__" = some (some (.builtin "object.__class__"))
  im_Mode : PySem.W.mroIn K a.f_Mode (.type "object") = some true
  is_Mode : PySem.W.kitOne K (.ref a.f_Mode) (.ref a.f_Mode) = some true
  ii_Mode : PySem.W.kitOne K (.type "int") (.ref a.f_Mode) = some false
  mg_Line : mg "Line" = some (.ref a.f_Line)
  c_Line : Cls K a.f_Line
  n_form_Line : NoAttr K a.f_Line "_form"
  n_owners_Line : NoAttr K a.f_Line "_owners"
  n_groups_Line : NoAttr K a.f_Line "_groups"
  n_must_Line : NoAttr K a.f_Line "_must"
  n_never_Line : NoAttr K a.f_Line "_never"
  mk_Line : Mk K a.f_Line a.f_LineD_initD
  fn_LineD_initD : FunD K "__init__" "Line.__init__" (defArgs s_LineD_initD) (defBody s_LineD_initD) (defScope s_LineD_initD) [.non, .non, .int 0, .int 0] [] a.f_LineD_initD a.d_LineD_initD
  m_Line_lets_names : Meth K a.f_Line "lets_names" a.f_Line_lets_names
  fn_Line_lets_names : Fun K "lets_names" "Line.lets_names" s_Line_lets_names a.f_Line_lets_names a.d_Line_lets_names
  m_Line_lets : Meth K a.f_Line "lets" a.f_Line_lets
  fn_Line_lets : Fun K "lets" "Line.lets" s_Line_lets a.f_Line_lets a.d_Line_lets
  m_Line_patterns : Meth K a.f_Line "patterns" a.f_Line_patterns
  fn_Line_patterns : Fun K "patterns" "Line.patterns" s_Line_patterns a.f_Line_patterns a.d_Line_patterns
  ia_Line : PySem.W.findIn K (.ref a.f_Line) "__class__" = some (some (.builtin "object.__class__"))
  im_Line : PySem.W.mroIn K a.f_Line (.type "object") = some true
  is_Line : PySem.W.kitOne K (.ref a.f_Line) (.ref a.f_Line) = some true
  ii_Line : PySem.W.kitOne K (.type "int") (.ref a.f_Line) = some false
  in_ : PySem.W.specialIn K (.builtin "object.__class__") "__get__" = some (some (.builtin "getset_descriptor.__get__"))
  it_ : PySem.W.takesIn K (.builtin "object.__class__") = some true
  mg_LETTERS : ∃ t, mg "LETTERS" = some (.str "abcdefghijklmnopqrstuvwxyz" t)
  mg_FORMS : mg "FORMS" = some (.ref a.k_FORMS)
  t_FORMS : ∀ H, SqT K H a.k_FORMS [.str "file", .str "folder"]
  mg_PATTERNS : mg "PATTERNS" = some (.ref a.k_PATTERNS)
  t_PATTERNS : ∀ H, SqT K H a.k_PATTERNS ([0, 1, 2, 3, 4, 5, 6, 7].map V.int)
  mg_WEIGHTS : mg "WEIGHTS" = some (.ref a.k_WEIGHTS)
  d_WEIGHTS : ∃ es n, KDict K w a.k_WEIGHTS es n ∧ (∃ t, PySem.W.nsIn K a.k_WEIGHTS "r" = some (some (.int 4 t))) ∧ (∃ t, PySem.W.nsIn K a.k_WEIGHTS "w" = some (some (.int 2 t))) ∧ (∃ t, PySem.W.nsIn K a.k_WEIGHTS "x" = some (some (.int 1 t)))
theorem bd_is_whole {w : World} {K : PySem.W.Frag} {mg : Str → Option Value} {a : Ads} (T : Txt w K mg a) : Binds K a.d_is_whole ["value"] [] := T.fn_is_whole.binds (ps := ["value"]) fun _ _ _ _ _ _ us hl => match us, hl with | [_], _ => rfl
theorem bd_is_whole_to {w : World} {K : PySem.W.Frag} {mg : Str → Option Value} {a : Ads} (T : Txt w K mg a) : Binds K a.d_is_whole_to ["value", "most"] [] := T.fn_is_whole_to.binds (ps := ["value", "most"]) fun _ _ _ _ _ _ us hl => match us, hl with | [_, _], _ => rfl
theorem bd_is_name {w : World} {K : PySem.W.Frag} {mg : Str → Option Value} {a : Ads} (T : Txt w K mg a) : Binds K a.d_is_name ["value"] [] := T.fn_is_name.binds (ps := ["value"]) fun _ _ _ _ _ _ us hl => match us, hl with | [_], _ => rfl
theorem bd_are_unlike_names {w : World} {K : PySem.W.Frag} {mg : Str → Option Value} {a : Ads} (T : Txt w K mg a) : Binds K a.d_are_unlike_names ["values"] [] := T.fn_are_unlike_names.binds (ps := ["values"]) fun _ _ _ _ _ _ us hl => match us, hl with | [_], _ => rfl
theorem bd_pattern_in {w : World} {K : PySem.W.Frag} {mg : Str → Option Value} {a : Ads} (T : Txt w K mg a) : Binds K a.d_pattern_in ["number", "weight"] [] := T.fn_pattern_in.binds (ps := ["number", "weight"]) fun _ _ _ _ _ _ us hl => match us, hl with | [_, _], _ => rfl
theorem bd_bits_of {w : World} {K : PySem.W.Frag} {mg : Str → Option Value} {a : Ads} (T : Txt w K mg a) : Binds K a.d_bits_of ["pattern", "weight"] [] := T.fn_bits_of.binds (ps := ["pattern", "weight"]) fun _ _ _ _ _ _ us hl => match us, hl with | [_, _], _ => rfl
theorem bd_weight_of {w : World} {K : PySem.W.Frag} {mg : Str → Option Value} {a : Ads} (T : Txt w K mg a) : Binds K a.d_weight_of ["letter"] [] := T.fn_weight_of.binds (ps := ["letter"]) fun _ _ _ _ _ _ us hl => match us, hl with | [_], _ => rfl
theorem bd_number_of {w : World} {K : PySem.W.Frag} {mg : Str → Option Value} {a : Ads} (T : Txt w K mg a) : Binds K a.d_number_of ["mode"] [] := T.fn_number_of.binds (ps := ["mode"]) fun _ _ _ _ _ _ us hl => match us, hl with | [_], _ => rfl
theorem bd_are_told {w : World} {K : PySem.W.Frag} {mg : Str → Option Value} {a : Ads} (T : Txt w K mg a) : Binds K a.d_are_told ["names"] [] := T.fn_are_told.binds (ps := ["names"]) fun _ _ _ _ _ _ us hl => match us, hl with | [_], _ => rfl
theorem bd_is_mode {w : World} {K : PySem.W.Frag} {mg : Str → Option Value} {a : Ads} (T : Txt w K mg a) : Binds K a.d_is_mode ["value"] [] := T.fn_is_mode.binds (ps := ["value"]) fun _ _ _ _ _ _ us hl => match us, hl with | [_], _ => rfl
theorem bd_ascending {w : World} {K : PySem.W.Frag} {mg : Str → Option Value} {a : Ads} (T : Txt w K mg a) : Binds K a.d_ascending ["names"] [] := T.fn_ascending.binds (ps := ["names"]) fun _ _ _ _ _ _ us hl => match us, hl with | [_], _ => rfl
theorem bd__law_pen {w : World} {K : PySem.W.Frag} {mg : Str → Option Value} {a : Ads} (T : Txt w K mg a) : Binds K a.d__law_pen ["_law_script"] [] := T.fn__law_pen.binds (ps := ["_law_script"]) fun _ _ _ _ _ _ us hl => match us, hl with | [_], _ => rfl
theorem bd__law_draw {w : World} {K : PySem.W.Frag} {mg : Str → Option Value} {a : Ads} (T : Txt w K mg a) : Binds K a.d__law_draw ["_law_pen_here", "_law_many"] [] := T.fn__law_draw.binds (ps := ["_law_pen_here", "_law_many"]) fun _ _ _ _ _ _ us hl => match us, hl with | [_, _], _ => rfl
theorem bd__law_pick {w : World} {K : PySem.W.Frag} {mg : Str → Option Value} {a : Ads} (T : Txt w K mg a) : Binds K a.d__law_pick ["_law_pen_here", "_law_some"] [] := T.fn__law_pick.binds (ps := ["_law_pen_here", "_law_some"]) fun _ _ _ _ _ _ us hl => match us, hl with | [_, _], _ => rfl
theorem bd__law_names {w : World} {K : PySem.W.Frag} {mg : Str → Option Value} {a : Ads} (T : Txt w K mg a) : Binds K a.d__law_names ["_law_pen_here", "_law_many"] [] := T.fn__law_names.binds (ps := ["_law_pen_here", "_law_many"]) fun _ _ _ _ _ _ us hl => match us, hl with | [_, _], _ => rfl
theorem bd__law_line {w : World} {K : PySem.W.Frag} {mg : Str → Option Value} {a : Ads} (T : Txt w K mg a) : Binds K a.d__law_line ["_law_pen_here", "_law_names_here"] [] := T.fn__law_line.binds (ps := ["_law_pen_here", "_law_names_here"]) fun _ _ _ _ _ _ us hl => match us, hl with | [_, _], _ => rfl
theorem bd__law_line_made {w : World} {K : PySem.W.Frag} {mg : Str → Option Value} {a : Ads} (T : Txt w K mg a) : Binds K a.d__law_line_made ["_law_told"] [] := T.fn__law_line_made.binds (ps := ["_law_told"]) fun _ _ _ _ _ _ us hl => match us, hl with | [_], _ => rfl
theorem bd__law_lets {w : World} {K : PySem.W.Frag} {mg : Str → Option Value} {a : Ads} (T : Txt w K mg a) : Binds K a.d__law_lets ["_law_told", "_law_sort", "_law_number", "_law_holder", "_law_team"] [] := T.fn__law_lets.binds (ps := ["_law_told", "_law_sort", "_law_number", "_law_holder", "_law_team"]) fun _ _ _ _ _ _ us hl => match us, hl with | [_, _, _, _, _], _ => rfl
theorem bd__law_patterns {w : World} {K : PySem.W.Frag} {mg : Str → Option Value} {a : Ads} (T : Txt w K mg a) : Binds K a.d__law_patterns ["_law_told", "_law_letter_so"] [] := T.fn__law_patterns.binds (ps := ["_law_told", "_law_letter_so"]) fun _ _ _ _ _ _ us hl => match us, hl with | [_, _], _ => rfl
theorem bd__law_lets_right {w : World} {K : PySem.W.Frag} {mg : Str → Option Value} {a : Ads} (T : Txt w K mg a) : Binds K a.d__law_lets_right ["_law_pen_here", "_law_told", "_law_line_here", "_law_names_here"] [] := T.fn__law_lets_right.binds (ps := ["_law_pen_here", "_law_told", "_law_line_here", "_law_names_here"]) fun _ _ _ _ _ _ us hl => match us, hl with | [_, _, _, _], _ => rfl
theorem bd__law_patterns_right {w : World} {K : PySem.W.Frag} {mg : Str → Option Value} {a : Ads} (T : Txt w K mg a) : Binds K a.d__law_patterns_right ["_law_pen_here", "_law_told", "_law_line_here", "_law_names_here"] [] := T.fn__law_patterns_right.binds (ps := ["_law_pen_here", "_law_told", "_law_line_here", "_law_names_here"]) fun _ _ _ _ _ _ us hl => match us, hl with | [_, _, _, _], _ => rfl
theorem bd_ModeD_initD {w : World} {K : PySem.W.Frag} {mg : Str → Option Value} {a : Ads} (T : Txt w K mg a) : Binds K a.d_ModeD_initD ["self", "number"] [] := T.fn_ModeD_initD.binds (ps := ["self", "number"]) fun _ _ _ _ _ _ us hl => match us, hl with | [_, _], _ => rfl
theorem bd_Mode_number {w : World} {K : PySem.W.Frag} {mg : Str → Option Value} {a : Ads} (T : Txt w K mg a) : Binds K a.d_Mode_number ["self"] [] := T.fn_Mode_number.binds (ps := ["self"]) fun _ _ _ _ _ _ us hl => match us, hl with | [_], _ => rfl
theorem bd_Mode_with_pattern {w : World} {K : PySem.W.Frag} {mg : Str → Option Value} {a : Ads} (T : Txt w K mg a) : Binds K a.d_Mode_with_pattern ["self", "letter", "pattern"] [] := T.fn_Mode_with_pattern.binds (ps := ["self", "letter", "pattern"]) fun _ _ _ _ _ _ us hl => match us, hl with | [_, _, _], _ => rfl
theorem bd_Line_lets_names {w : World} {K : PySem.W.Frag} {mg : Str → Option Value} {a : Ads} (T : Txt w K mg a) : Binds K a.d_Line_lets_names ["self", "owner", "group"] [] := T.fn_Line_lets_names.binds (ps := ["self", "owner", "group"]) fun _ _ _ _ _ _ us hl => match us, hl with | [_, _, _], _ => rfl
theorem bd_Line_lets {w : World} {K : PySem.W.Frag} {mg : Str → Option Value} {a : Ads} (T : Txt w K mg a) : Binds K a.d_Line_lets ["self", "form", "mode", "owner", "group"] [] := T.fn_Line_lets.binds (ps := ["self", "form", "mode", "owner", "group"]) fun _ _ _ _ _ _ us hl => match us, hl with | [_, _, _, _, _], _ => rfl
theorem bd_Line_patterns {w : World} {K : PySem.W.Frag} {mg : Str → Option Value} {a : Ads} (T : Txt w K mg a) : Binds K a.d_Line_patterns ["self", "letter"] [] := T.fn_Line_patterns.binds (ps := ["self", "letter"]) fun _ _ _ _ _ _ us hl => match us, hl with | [_, _], _ => rfl
/-- a line, five things told -/
theorem bd_Line5 {w : World} {K : PySem.W.Frag} {mg : Str → Option Value} {a : Ads} (T : Txt w K mg a) : ∃ ds, Vals [] ds ∧ Binds K a.d_LineD_initD ["self", "form", "owners", "groups", "must", "never"] ds :=
  T.fn_LineD_initD.binds1 (ps := ["self", "form", "owners", "groups", "must", "never"]) 6 4 (by decide) rfl fun _ _ _ _ _ _ _ us its hu hi => match us, its, hu, hi with | [_, _, _, _, _, _], [_, _, _, _], _, _ => ⟨_, rfl, rfl⟩
theorem bd_Line1 {w : World} {K : PySem.W.Frag} {mg : Str → Option Value} {a : Ads} (T : Txt w K mg a) : ∃ ds, Vals [.non, .non, .int 0, .int 0] ds ∧ Binds K a.d_LineD_initD ["self", "form", "owners", "groups", "must", "never"] ds :=
  T.fn_LineD_initD.binds1 (ps := ["self", "form", "owners", "groups", "must", "never"]) 2 0 (by decide) rfl fun _ _ _ _ _ _ _ us its hu hi => match us, its, hu, hi with | [_, _], [_, _, _, _], _, _ => ⟨_, rfl, rfl⟩
theorem bd_Line4 {w : World} {K : PySem.W.Frag} {mg : Str → Option Value} {a : Ads} (T : Txt w K mg a) : ∃ ds, Vals [.int 0] ds ∧ Binds K a.d_LineD_initD ["self", "form", "owners", "groups", "must", "never"] ds :=
  T.fn_LineD_initD.binds1 (ps := ["self", "form", "owners", "groups", "must", "never"]) 5 3 (by decide) rfl fun _ _ _ _ _ _ _ us its hu hi => match us, its, hu, hi with | [_, _, _, _, _], [_, _, _, _], _, _ => ⟨_, rfl, rfl⟩
end KG
set_option Elab.async false
set_option linter.all false
set_option maxRecDepth 100000
set_option maxHeartbeats 4000000
namespace KG
open PySem PySem.Spec PyProof.Rows L2 Evl KF
local macro_rules | `(tactic| walk_at "ev") => `(tactic| repeat' (first | exact ev_c | exact ev_var rfl | exact rv_I0 | refine' rv_I ?_ | refine' rv_eq ?_ | refine' rv_ne ?_ | refine' ev_op ?_ ?_ ?_ | exact ea_nil | refine' ea_cons ?_ ?_ | refine' et_test ?_ | refine' et_B ?_ | refine' et_not ?_ | refine' ev_notV ?_))

open PySem
/-! pure promises -/
def patN (n w : Nat) : Nat := 4 * (n / w / 64 % 2) + 2 * (n / w / 8 % 2) + n / w % 2
def bitsN (p w : Nat) : Nat := (64 * (p / 4 % 2) + 8 * (p / 2 % 2) + p % 2) * w
def spPat : Sp := fun vs H Q _ => ∃ n w : Nat, vs = [.int n, .int w] ∧ n < 512 ∧ (w = 1 ∨ w = 2 ∨ w = 4) ∧ ∀ H', Ex H H' → Q (.int (patN n w : Nat)) H'
def spBits : Sp := fun vs H Q _ => ∃ p w : Nat, vs = [.int p, .int w] ∧ p < 8 ∧ (w = 1 ∨ w = 2 ∨ w = 4) ∧ ∀ H', Ex H H' → Q (.int (bitsN p w : Nat)) H'
theorem pat_is : ∀ w : Nat, (w = 1 ∨ w = 2 ∨ w = 4) → ∀ n : Nat, n < 512 → Builtin.bitOr (Builtin.bitOr (Builtin.bitAnd ((n : Int) / (w : Int) / 2 ^ (4 : Int).toNat) 4) (Builtin.bitAnd ((n : Int) / (w : Int) / 2 ^ (2 : Int).toNat) 2)) (Builtin.bitAnd ((n : Int) / (w : Int)) 1) = (patN n w : Nat) := by
  have h : (([1, 2, 4] : List Nat).all fun (w : Nat) => (List.range 512).all fun (n : Nat) => decide (Builtin.bitOr (Builtin.bitOr (Builtin.bitAnd ((n : Int) / (w : Int) / 2 ^ (4 : Int).toNat) 4) (Builtin.bitAnd ((n : Int) / (w : Int) / 2 ^ (2 : Int).toNat) 2)) (Builtin.bitAnd ((n : Int) / (w : Int)) 1) = (patN n w : Nat))) = true := by decide +kernel
  intro w hw n hn
  have h1 := List.all_eq_true.mp h w (by rcases hw with e | e | e <;> subst e <;> decide)
  exact of_decide_eq_true (all_nat h1 n hn)
theorem bits_is : ∀ w : Nat, (w = 1 ∨ w = 2 ∨ w = 4) → ∀ p : Nat, p < 8 → Builtin.bitOr (Builtin.bitOr (Builtin.bitAnd (p : Int) 4 * 2 ^ (4 : Int).toNat) (Builtin.bitAnd (p : Int) 2 * 2 ^ (2 : Int).toNat)) (Builtin.bitAnd (p : Int) 1) * (w : Int) = (bitsN p w : Nat) := by
  have h : (([1, 2, 4] : List Nat).all fun (w : Nat) => (List.range 8).all fun (p : Nat) => decide (Builtin.bitOr (Builtin.bitOr (Builtin.bitAnd (p : Int) 4 * 2 ^ (4 : Int).toNat) (Builtin.bitAnd (p : Int) 2 * 2 ^ (2 : Int).toNat)) (Builtin.bitAnd (p : Int) 1) * (w : Int) = (bitsN p w : Nat))) = true := by decide +kernel
  intro w hw n hn
  have h1 := List.all_eq_true.mp h w (by rcases hw with e | e | e <;> subst e <;> decide)
  exact of_decide_eq_true (all_nat h1 n hn)
theorem and_lt : ∀ p : Nat, p < 8 → (Builtin.bitAnd (p : Int) 4).natAbs < 2 ^ 64 ∧ (Builtin.bitAnd (p : Int) 2).natAbs < 2 ^ 64 := by
  have h : ((List.range 8).all fun (p : Nat) => decide ((Builtin.bitAnd (p : Int) 4).natAbs < 2 ^ 64 ∧ (Builtin.bitAnd (p : Int) 2).natAbs < 2 ^ 64)) = true := by decide +kernel
  exact fun p hp => of_decide_eq_true (all_nat h p hp)
section
variable {P : Program} {w : World} {K : PySem.W.Frag} {mg : Str → Option Value} {base : Heap}
theorem ok_pattern_in {f : Addr} {fd : FuncData} (F : Fun K "pattern_in" "pattern_in" s_pattern_in f fd) : FnOk P w K mg base CX0 1 f fd ["number", "weight"] spPat := by
  refine F.ok sc_pattern_in (fun vs H Q E h => ?_) (fun cdv A outer s H vs Q E hr h => ?_)
  · obtain ⟨_, _, rfl, _⟩ := h
    rfl
  · obtain ⟨n, w, rfl, hn, hw, k⟩ := h
    refine ⟨_, (pss_cons (ps_set (i := 2) sc_pattern_in.nd rfl (Or.inl rfl) (pe_op op_fdiv (pv 0) (pv 1)))
    (pss_one (ps_ret (pe_op op_or (pe_op op_or (pe_op op_and (pe_op op_shr (pv 2) pe_int) pe_int) (pe_op op_and (pe_op op_shr (pv 2) pe_int) pe_int)) (pe_op op_and (pv 2) pe_int))))), ?_⟩
    refine q_asg (by walk_at "ev"; exact ⟨by omega, by omega⟩) fun H1 e1 => ?_
    refine s_ret (v := .int (patN n w : Nat)) (ev_is (by walk_at "ev"; all_goals decide) (congrArg V.int (pat_is w hw n hn))) fun H2 e2 => ?_
    exact k H2 (e1.trans e2)
theorem ok_bits_of {f : Addr} {fd : FuncData} (F : Fun K "bits_of" "bits_of" s_bits_of f fd) : FnOk P w K mg base CX0 1 f fd ["pattern", "weight"] spBits := by
  refine F.ok sc_bits_of (fun vs H Q E h => ?_) (fun cdv A outer s H vs Q E hr h => ?_)
  · obtain ⟨_, _, rfl, _⟩ := h
    rfl
  · obtain ⟨n, w, rfl, hn, hw, k⟩ := h
    refine ⟨_, (pss_one (ps_ret (pe_op op_mul (pe_op op_or (pe_op op_or (pe_op op_shl (pe_op op_and (pv 0) pe_int) pe_int) (pe_op op_shl (pe_op op_and (pv 0) pe_int) pe_int)) (pe_op op_and (pv 0) pe_int)) (pv 1)))), ?_⟩
    refine s_ret (v := .int (bitsN n w : Nat)) (ev_is (by walk_at "ev"; exact ⟨by decide, by decide, (and_lt n hn).1⟩; exact ⟨by decide, by decide, (and_lt n hn).2⟩; exact Or.inr ⟨by omega, by omega⟩) (congrArg V.int (bits_is w hw n hn))) fun H2 e2 => ?_
    exact k H2 e2
end
end KG
set_option Elab.async false
set_option linter.all false
set_option maxRecDepth 100000
set_option maxHeartbeats 4000000
namespace KG
open PySem PySem.Spec PyProof.Rows L2 Evl KF
local macro_rules | `(tactic| walk_at "ev") => `(tactic| repeat' (first | exact ev_c | exact ev_var rfl | exact rv_I0 | refine' rv_I ?_ | refine' rv_eq ?_ | refine' rv_ne ?_ | refine' ev_op ?_ ?_ ?_ | exact ea_nil | refine' ea_cons ?_ ?_ | refine' et_test ?_ | refine' et_B ?_ | refine' et_not ?_ | refine' ev_notV ?_))

open PySem
/-! promises -/
def spTrue1 : Sp := fun vs H Q _ => ∃ i : Int, vs = [.int i] ∧ ∀ H', Ex H H' → Q (.bl true) H'
def spTrue2 : Sp := fun vs H Q _ => ∃ i m : Int, vs = [.int i, .int m] ∧ 0 ≤ i ∧ i ≤ m ∧ ∀ H', Ex H H' → Q (.bl true) H'
/-- a Mode of number n stands at p -/
def ModeAt (a : Ads) (H : Hp) (p : Addr) (n : Nat) : Prop := ∃ dx, H p = some (.ins a.f_Mode dx [(("_number" : Str), .int n)])
theorem ModeAt.mono {a : Ads} {H H' : Hp} {p : Addr} {n : Nat} (m : ModeAt a H p n) (e : Ex H H') : ModeAt a H' p n := by
  obtain ⟨dx, h⟩ := m
  exact ⟨dx, e _ _ h⟩
def spMode (a : Ads) : Sp := fun vs H Q _ => ∃ (p dx : Addr) (n : Nat), vs = [.ref p, .int n] ∧ n < 512 ∧ H p = some (.ins a.f_Mode dx []) ∧ ∀ H', (∀ b o, H b = some o → b ≠ p → H' b = some o) → H' p = some (.ins a.f_Mode dx [(("_number" : Str), .int n)]) → Q .non H'
def spNum (a : Ads) : Sp := fun vs H Q _ => ∃ (v : V) (n : Nat), vs = [v] ∧ n < 512 ∧ (v = .int n ∨ ∃ p, v = .ref p ∧ ModeAt a H p n) ∧ ∀ H', Ex H H' → Q (.int n) H'
section
variable {P : Program} {w : World} {K : PySem.W.Frag} {mg : Str → Option Value} {base : Heap} {a : Ads}
theorem ok_is_whole (T : Txt w K mg a) : FnOk P w K mg base CX0 1 a.f_is_whole a.d_is_whole ["value"] spTrue1 := by
  refine T.fn_is_whole.ok sc_is_whole (fun vs H Q E h => ?_) (fun cdv A outer s H vs Q E hr h => ?_)
  · obtain ⟨_, rfl, _⟩ := h
    rfl
  · obtain ⟨i, rfl, k⟩ := h
    refine ⟨_, (pss_one (ps_ret (pe_and (pe_callB call_isi (by rfl) T.b_isinstance PyProof.Rows.boot_isinstance (pa_cons (pv 0) (pa_cons (pe_bltn (v := .ty "int") (by rfl) T.b_int (by decide +kernel) rfl) pa_nil))) (pe_one (pe_not (pe_callB call_isi (by rfl) T.b_isinstance PyProof.Rows.boot_isinstance (pa_cons (pv 0) (pa_cons (pe_bltn (v := .ty "bool") (by rfl) T.b_bool (by decide +kernel) rfl) pa_nil)))))))), ?_⟩
    refine s_ret (v := .bl true) (ev_andV (a := true) (ev_isi (by walk_at "ev") (.ty _) (fun _ _ => .base (.int i)) (kit_ty (by decide +kernel))) fun _ => ev_notV (a := false) (ev_isi (by walk_at "ev") (.ty _) (fun _ _ => .base (.int i)) (kit_ty (by decide +kernel)))) fun H1 e1 => ?_
    exact k H1 e1
theorem ok_is_whole_to (T : Txt w K mg a) : FnOk P w K mg base CX0 3 a.f_is_whole_to a.d_is_whole_to ["value", "most"] spTrue2 := by
  have G_is_whole : FnOk P w K mg base CX0 1 _ _ _ _ := ok_is_whole T
  refine T.fn_is_whole_to.ok sc_is_whole_to (fun vs H Q E h => ?_) (fun cdv A outer s H vs Q E hr h => ?_)
  · obtain ⟨_, _, rfl, _⟩ := h
    rfl
  · obtain ⟨i, m, rfl, h0, h1, k⟩ := h
    have hrc : Room 1 _ := hr.mono (by decide)
    refine ⟨_, (pss_one (ps_ret (pe_and (pe_call G_is_whole hrc rfl T.mg_is_whole T.fn_is_whole.kp (bd_is_whole T) .nil pass0 (pa_cons (pv 0) pa_nil)) (pe_one (pe_chain op_le op_le pe_int (pv 0) (pv 1)))))), ?_⟩
    refine s_ret (v := .bl true) (ev_is (ev_andV (a := true) (ev_call (vs := [.int i]) (by walk_at "ev") fun H1 e Q q E => ⟨i, rfl, q⟩) fun _ => ev_chain (by walk_at "ev") (by walk_at "ev") (by walk_at "ev") fun _ => ⟨by walk_at "ev", by walk_at "ev"⟩) ?_) fun H1 e1 => ?_
    · rw [decide_eq_true h0, decide_eq_true h1] <;> rfl
    exact k H1 e1
theorem ok_Mode_init (T : Txt w K mg a) : FnOk P w K mg base CX0 5 a.f_ModeD_initD a.d_ModeD_initD ["self", "number"] (spMode a) := by
  have G_is_whole_to : FnOk P w K mg base CX0 3 _ _ _ _ := ok_is_whole_to T
  refine T.fn_ModeD_initD.ok sc_ModeD_initD (fun vs H Q E h => ?_) (fun cdv A outer s H vs Q E hr h => ?_)
  · obtain ⟨_, _, _, rfl, _⟩ := h
    rfl
  · obtain ⟨p, dx, n, rfl, hn, hp, k⟩ := h
    have hrc : Room 3 _ := hr.mono (by decide)
    obtain ⟨tm, hm⟩ := T.k_Mode_MOST
    refine ⟨_, (pss_cons (ps_if (pt_not (pt_val (pe_call G_is_whole_to hrc rfl T.mg_is_whole_to T.fn_is_whole_to.kp (bd_is_whole_to T) .nil pass0 (pa_cons (pv 1) (pa_cons (ClX.pe_cval (pe_glob (v := .ref a.f_Mode) rfl T.mg_Mode rfl)) pa_nil))))) (pss_one ps_never) pss_nil)
    (pss_one (ps_fld (pv 0) (pv 1) rfl))), ?_⟩
    refine q_when (b := false) (et_not (a := true) (et_B (ev_call (vs := [.int n, .int 511]) (ea_cons (ev_var rfl) (ea_cons (ev_cval ev_c T.r_Mode hm) ea_nil)) fun H1 e Q q E => ⟨n, 511, rfl, by omega, by omega, q⟩))) (fun z => nomatch z) fun _ H1 e1 => ?_
    refine ⟨_, rfl, _, rfl, p, a.f_Mode, dx, [], rfl, e1 _ _ hp, T.c_Mode, T.n_number_Mode, (by show 0 < 1000; decide), ?_⟩
    exact k _ (fun b o hb ne => by rw [upd_ne ne]; exact e1 _ _ hb) upd_same
theorem ok_Mode_number (T : Txt w K mg a) : FnOk P w K mg base CX0 1 a.f_Mode_number a.d_Mode_number ["self"] (getSp a.f_Mode "_number") := by
  obtain ⟨oc, od, kV, doc, pm, an, cdv, ct, osl, e, lk, hcd⟩ := T.fn_Mode_number.ex
  rw [e]
  exact fn_getter (by rw [← e]; exact lk) hcd sc_Mode_number rfl rfl T.c_Mode T.n_number_Mode
theorem tyx_mode (T : Txt w K mg a) {H : Hp} {p : Addr} {n : Nat} (m : ModeAt a H p n) : TyX K H (.ref p) (.ref a.f_Mode) := by
  obtain ⟨dx, h⟩ := m
  exact .base (.ins h T.c_Mode T.ia_Mode T.in_ T.it_ T.im_Mode)
theorem ok_number_of (T : Txt w K mg a) : FnOk P w K mg base CX0 5 a.f_number_of a.d_number_of ["mode"] (spNum a) := by
  have G_is_whole_to : FnOk P w K mg base CX0 3 _ _ _ _ := ok_is_whole_to T
  have G_Mode_number : FnOk P w K mg base CX0 3 _ _ _ _ := (ok_Mode_number T).mono (by decide)
  refine T.fn_number_of.ok sc_number_of (fun vs H Q E h => ?_) (fun cdv A outer s H vs Q E hr h => ?_)
  · obtain ⟨_, _, rfl, _⟩ := h
    rfl
  · obtain ⟨v, n, rfl, hn, hv, k⟩ := h
    have hrm : Room 4 _ := hr
    have hrc : Room 3 _ := hr.mono (by decide)
    obtain ⟨tm, hm⟩ := T.k_Mode_MOST
    refine ⟨_, (pss_cons (ps_if (pt_val (pe_callB call_isi (by rfl) T.b_isinstance PyProof.Rows.boot_isinstance (pa_cons (pv 0) (pa_cons (pe_glob (v := .ref a.f_Mode) rfl T.mg_Mode rfl) pa_nil)))) (pss_one (ps_ret (pe_prop (pv 0) T.c_Mode T.p_Mode_number (G_Mode_number) hrm (bd_Mode_number T) .nil pass0 rfl))) pss_nil)
    (pss_cons (ps_if (pt_not (pt_val (pe_call G_is_whole_to hrc rfl T.mg_is_whole_to T.fn_is_whole_to.kp (bd_is_whole_to T) .nil pass0 (pa_cons (pv 0) (pa_cons (ClX.pe_cval (pe_glob (v := .ref a.f_Mode) rfl T.mg_Mode rfl)) pa_nil))))) (pss_one ps_never) pss_nil)
    (pss_one (ps_ret (pv 0))))), ?_⟩
    rcases hv with rfl | ⟨p, rfl, m⟩
    · refine q_when (b := false) (et_B (ev_isi (by walk_at "ev") (.own _) (fun _ _ => .base (.int n)) T.ii_Mode)) (fun z => nomatch z) fun _ H1 e1 => ?_
      refine q_when (b := false) (et_not (a := true) (et_B (ev_call (vs := [.int n, .int 511]) (ea_cons (ev_var rfl) (ea_cons (ev_cval ev_c T.r_Mode hm) ea_nil)) fun H1 e Q q E => ⟨n, 511, rfl, by omega, by omega, q⟩))) (fun z => nomatch z) fun _ H2 e2 => ?_
      exact s_ret (v := .int n) (ev_var rfl) fun H3 e3 => k H3 ((e1.trans e2).trans e3)
    · obtain ⟨dx, hp⟩ := id m
      refine q_when (b := true) (et_B (ev_isi (by walk_at "ev") (.own _) (fun H' e' => tyx_mode T (m.mono e')) T.is_Mode)) (fun _ H1 e1 => ?_) fun z => nomatch z
      refine s_ret (v := .int n) (ev_prop (ev_var rfl) (e1 _ _ hp) (spv_get (e1 _ _ hp) (by simp [List.lookup]))) fun H2 e2 => ?_
      exact k H2 (e1.trans e2)
end
end KG
set_option Elab.async false
set_option linter.all false
set_option maxRecDepth 100000
set_option maxHeartbeats 4000000
namespace KG
open PySem PySem.Spec PyProof.Rows L2 Evl KF
local macro_rules | `(tactic| walk_at "ev") => `(tactic| repeat' (first | exact ev_c | exact ev_var rfl | exact rv_I0 | refine' rv_I ?_ | refine' rv_eq ?_ | refine' rv_ne ?_ | refine' ev_op ?_ ?_ ?_ | exact ea_nil | refine' ea_cons ?_ ?_ | refine' et_test ?_ | refine' et_B ?_ | refine' et_not ?_ | refine' ev_notV ?_))

open PySem
def wtN (i : Nat) : Nat := if i = 0 then 4 else if i = 1 then 2 else 1
theorem wt_is (i : Nat) : wtN i = 1 ∨ wtN i = 2 ∨ wtN i = 4 := by
  unfold wtN
  split
  · exact .inr (.inr rfl)
  · split
    · exact .inr (.inl rfl)
    · exact .inl rfl
def wN (n i c : Nat) : Nat := n - bitsN (patN n (wtN i)) (wtN i) + bitsN c (wtN i)
theorem keep_law : ∀ i : Nat, i < 3 → ∀ c : Nat, c < 8 → ∀ n : Nat, n < 512 → Builtin.bitOr (Builtin.bitAnd (n : Int) (511 - (bitsN 7 (wtN i) : Nat))) (bitsN c (wtN i) : Nat) = (wN n i c : Nat) := by
  have h : ((List.range 3).all fun (i : Nat) => (List.range 8).all fun (c : Nat) => (List.range 512).all fun (n : Nat) => decide (Builtin.bitOr (Builtin.bitAnd (n : Int) (511 - (bitsN 7 (wtN i) : Nat))) (bitsN c (wtN i) : Nat) = (wN n i c : Nat))) = true := by decide +kernel
  exact fun i hi c hc n hn => of_decide_eq_true (all_nat (all_nat (all_nat h i hi) c hc) n hn)
theorem rv_kix {K : PySem.W.Frag} {w : World} {d : Addr} {es : Array DictEntry} {n : Nat} {z : Str} {u : Value} {v : V} {H : Hp} (D : KDict K w d es n) (h : PySem.W.nsIn K d z = some (some u)) (r : RelV v u) : RV (rIxD K w) (.ref d) (.str z) H v := fun H1 _ _ q => ⟨d, z, v, rfl, rfl, ⟨es, n, u, D.at_, D.lit, h, r⟩, q H1 (Ex.refl H1)⟩
theorem rv_nkd {K : PySem.W.Frag} {d : Addr} {z : Str} {r : Option Value} {H : Hp} (h : PySem.W.nsIn K d z = some r) : RV (fun x y H Q => ∃ (z : Str) (r : Option Value), x = .str z ∧ y = .ref d ∧ PySem.W.nsIn K d z = some r ∧ Q (.bl (!r.isSome)) H) (.str z) (.ref d) H (.bl (!r.isSome)) := fun H1 _ _ q => ⟨z, r, rfl, rfl, h, q H1 (Ex.refl H1)⟩
def letS (i : Nat) : Str := if i = 0 then "r" else if i = 1 then "w" else "x"
theorem wN_lt : ∀ i : Nat, i < 3 → ∀ c : Nat, c < 8 → ∀ n : Nat, n < 512 → wN n i c < 512 := by
  have h : ((List.range 3).all fun (i : Nat) => (List.range 8).all fun (c : Nat) => (List.range 512).all fun (n : Nat) => decide (wN n i c < 512)) = true := by decide +kernel
  exact fun i hi c hc n hn => of_decide_eq_true (all_nat (all_nat (all_nat h i hi) c hc) n hn)
def spWt : Sp := fun vs H Q _ => ∃ i : Nat, i < 3 ∧ vs = [.str (letS i)] ∧ ∀ H', Ex H H' → Q (.int (wtN i : Nat)) H'
def spWith (a : Ads) : Sp := fun vs H Q _ => ∃ (p : Addr) (n i c : Nat), vs = [.ref p, .str (letS i), .int c] ∧ ModeAt a H p n ∧ n < 512 ∧ i < 3 ∧ c < 8 ∧ ∀ q H', H q = none → Ex H H' → ModeAt a H' q (wN n i c) → Q (.ref q) H'
def EvM (a : Ads) (te : TE) (σ : L2.St) (H : Hp) (n : Nat) : Prop := ∀ H1, Ex H H1 → ∀ Q : VK, (∀ p H2, H1 p = none → Ex H1 H2 → ModeAt a H2 p n → Q (.ref p) H2) → te σ H1 Q
theorem em_mode {a : Ads} {te : TE} {σ : L2.St} {H : Hp} {n : Nat} {E : XK} (h : Ev te σ H (.int n)) (hn : n < 512) : EvM a (tMake a.f_Mode (spMode a) [] E (tCons te tNil)) σ H n := fun H1 e1 Q q =>
  h H1 e1 _ fun H2 e2 x dx hx hdx hne => ⟨x, dx, n, rfl, hn, upd_same, fun H3 k3 h3 => ⟨rfl, q x H3 (fresh_back e2 hx) (e2.trans fun b o hb => by
    have bx := ne_of_none hb hx
    have bdx := ne_of_none hb hdx
    exact k3 b o (by rw [upd_ne bx, upd_ne bdx]; exact hb) bx) ⟨dx, h3⟩⟩⟩
section
variable {P : Program} {w : World} {K : PySem.W.Frag} {mg : Str → Option Value} {base : Heap} {a : Ads}
theorem wt_let (T : Txt w K mg a) (i : Nat) (hi : i < 3) : ∃ es n, KDict K w a.k_WEIGHTS es n ∧ ∃ t, PySem.W.nsIn K a.k_WEIGHTS (letS i) = some (some (.int (wtN i : Nat) t)) := by
  obtain ⟨es, n, D, ⟨t4, hr_⟩, ⟨t2, hw_⟩, ⟨t1, hx_⟩⟩ := T.d_WEIGHTS
  match i, hi with
  | 0, _ => exact ⟨es, n, D, t4, hr_⟩
  | 1, _ => exact ⟨es, n, D, t2, hw_⟩
  | 2, _ => exact ⟨es, n, D, t1, hx_⟩
theorem ok_weight_of (T : Txt w K mg a) : FnOk P w K mg base CX0 1 a.f_weight_of a.d_weight_of ["letter"] spWt := by
  refine T.fn_weight_of.ok sc_weight_of (fun vs H Q E h => ?_) (fun cdv A outer s H vs Q E hr h => ?_)
  · obtain ⟨_, _, rfl, _⟩ := h
    rfl
  · obtain ⟨i, hi, rfl, k⟩ := h
    obtain ⟨es, n, D, t, ht⟩ := wt_let T i hi
    refine ⟨_, (pss_cons (ps_if (PW.pt (pw_or (pt_not (pt_val (pe_callB call_isi (by rfl) T.b_isinstance PyProof.Rows.boot_isinstance (pa_cons (pv 0) (pa_cons (pe_bltn (v := .ty "str") (by rfl) T.b_str (by decide +kernel) rfl) pa_nil))))) (pw_or1 (pt_cmpR (op_notIn_kd D) (pv 0) (pe_glob (v := .ref a.k_WEIGHTS) rfl T.mg_WEIGHTS rfl) (by rfl))))) (pss_one ps_never) pss_nil)
    (pss_one (ps_ret (pe_ix ix_kdict (pe_glob (v := .ref a.k_WEIGHTS) rfl T.mg_WEIGHTS rfl) (pv 0) (fun _ _ => rfl))))), ?_⟩
    refine q_when (b := false) (et_is (et_or (et_not (a := true) (et_B (ev_isi (ea_cons (ev_var rfl) (ea_cons ev_c ea_nil)) (.ty _) (fun _ _ => .base (.str _)) (kit_ty (by decide +kernel))))) fun _ => et_test (ev_op (ev_var rfl) ev_c (rv_nkd ht))) rfl) (fun z => nomatch z) fun _ H1 e1 => ?_
    exact s_ret (v := .int (wtN i : Nat)) (ev_op ev_c (ev_var rfl) (rv_kix D ht ⟨t, rfl⟩)) fun H2 e2 => k H2 (e1.trans e2)
theorem ok_MWith (T : Txt w K mg a) : FnOk P w K mg base CX0 7 a.f_Mode_with_pattern a.d_Mode_with_pattern ["self", "letter", "pattern"] (spWith a) := by
  have G_weight_of : FnOk P w K mg base CX0 6 _ _ _ _ := (ok_weight_of T).mono (by decide)
  have G_is_whole_to : FnOk P w K mg base CX0 6 _ _ _ _ := (ok_is_whole_to T).mono (by decide)
  have G_bits_of : FnOk P w K mg base CX0 6 _ _ _ _ := (ok_bits_of T.fn_bits_of).mono (by decide)
  have G_Mode_init : FnOk P w K mg base CX0 5 _ _ _ _ := ok_Mode_init T
  refine T.fn_Mode_with_pattern.ok sc_Mode_with_pattern (fun vs H Q E h => ?_) (fun cdv A outer s H vs Q E hr h => ?_)
  · obtain ⟨_, _, _, _, rfl, _⟩ := h
    rfl
  · obtain ⟨p, n, i, c, rfl, ⟨dx, hp⟩, hn, hi, hc, k⟩ := h
    have hrc : Room 6 _ := hr
    have hrm : Room (5 + 1) _ := hr
    obtain ⟨tm, hm⟩ := T.k_Mode_MOST
    refine ⟨_, (pss_cons (ps_set (i := 3) sc_Mode_with_pattern.nd rfl (Or.inl rfl) (pe_call G_weight_of hrc rfl T.mg_weight_of T.fn_weight_of.kp (bd_weight_of T) .nil pass0 (pa_cons (pv 1) pa_nil)))
    (pss_cons (ps_if (pt_not (pt_val (pe_call G_is_whole_to hrc rfl T.mg_is_whole_to T.fn_is_whole_to.kp (bd_is_whole_to T) .nil pass0 (pa_cons (pv 2) (pa_cons pe_int pa_nil))))) (pss_one ps_never) pss_nil)
    (pss_cons (ps_set (i := 4) sc_Mode_with_pattern.nd rfl (Or.inl rfl) (pe_op op_and (pe_fld (pv 0) rfl) (pe_op op_sub (ClX.pe_cval (pe_glob (v := .ref a.f_Mode) rfl T.mg_Mode rfl)) (pe_call G_bits_of hrc rfl T.mg_bits_of T.fn_bits_of.kp (bd_bits_of T) .nil pass0 (pa_cons pe_int (pa_cons (pv 3) pa_nil))))))
    (pss_one (ps_ret (pe_make T.mk_Mode G_Mode_init hrm rfl T.mg_Mode (bd_ModeD_initD T) .nil pass0 (pa_cons (pe_op op_or (pv 4) (pe_call G_bits_of hrc rfl T.mg_bits_of T.fn_bits_of.kp (bd_bits_of T) .nil pass0 (pa_cons (pv 2) (pa_cons (pv 3) pa_nil)))) pa_nil))))))), ?_⟩
    refine q_asg (v := .int (wtN i : Nat)) (ev_call (vs := [.str (letS i)]) (ea_cons (ev_var rfl) ea_nil) fun H2 e Q q E => ⟨i, hi, rfl, q⟩) fun H1 e1 => ?_
    refine q_when (b := false) (et_not (a := true) (et_B (ev_call (vs := [.int (c : Nat), .int 7]) (ea_cons (ev_var (i := 2) rfl) (ea_cons ev_c ea_nil)) fun H2 e Q q E => ⟨c, 7, rfl, by omega, by omega, q⟩))) (fun z => nomatch z) fun _ H2 e2 => ?_
    have hp2 := (e1.trans e2) _ _ hp
    refine q_asg (v := .int (Builtin.bitAnd (n : Int) (511 - (bitsN 7 (wtN i) : Nat)))) (ev_op (ev_fld (ev_var rfl) hp2 T.c_Mode T.n_number_Mode (by simp [List.lookup])) (ev_op (ev_cval ev_c T.r_Mode hm) (ev_call (vs := [.int 7, .int (wtN i : Nat)]) (ea_cons ev_c (ea_cons (ev_var rfl) ea_nil)) fun H3 e Q q E => ⟨7, wtN i, rfl, by decide, wt_is i, q⟩) rv_I0) rv_I0) fun H3 e3 => ?_
    refine em_mode (a := a) (n := wN n i c) (ev_is (ev_op (ev_var rfl) (ev_call (vs := [.int (c : Nat), .int (wtN i : Nat)]) (ea_cons (ev_var rfl) (ea_cons (ev_var rfl) ea_nil)) fun H4 e Q q E => ⟨c, wtN i, rfl, hc, wt_is i, q⟩) rv_I0) (congrArg V.int (keep_law i hi c hc n hn))) (wN_lt i hi c hc n hn) H3 (Ex.refl _) _ fun q H4 hq e4 m => k q H4 (fresh_back ((e1.trans e2).trans e3) hq) (((e1.trans e2).trans e3).trans e4) m
end
end KG
set_option Elab.async false
set_option linter.all false
set_option maxRecDepth 100000
set_option maxHeartbeats 4000000
namespace KG
open PySem PySem.Spec PyProof.Rows L2 Evl KF
local macro_rules | `(tactic| walk_at "ev") => `(tactic| repeat' (first | exact ev_c | exact ev_var rfl | exact rv_I0 | refine' rv_I ?_ | refine' rv_eq ?_ | refine' rv_ne ?_ | refine' ev_op ?_ ?_ ?_ | exact ea_nil | refine' ea_cons ?_ ?_ | refine' et_test ?_ | refine' et_B ?_ | refine' et_not ?_ | refine' ev_notV ?_))

open PySem
def lettersS : Str := "abcdefghijklmnopqrstuvwxyz"
/-- a name: one to eight letters -/
structure NameOk (s : Str) : Prop where
  pos : 1 ≤ s.cps.size
  le : s.cps.size ≤ 8
  all : ∀ c ∈ s.cps.toList, c ∈ lettersS.cps.toList
theorem unlike_ok {xs : List Str} (h : xs.length ≤ 2) (nd : xs.Nodup) : KS.unlike xs xs.length = xs.length := by
  match xs, h, nd with
  | [], _, _ => rfl
  | [a], _, _ => rfl
  | [a, b], _, nd =>
    have ne : a ≠ b := fun z => by
      rw [z] at nd
      exact (List.nodup_cons.mp nd).1 (List.mem_singleton.mpr rfl)
    show KS.unlike [a, b] 2 = 2
    rw [KS.unlike_two, if_neg ne]
  | _ :: _ :: _ :: _, h, _ => simp at h
/-- names told: none, or one or two unlike ones -/
structure NamesOk (o : Option (List Str)) : Prop where
  pos : ∀ xs, o = some xs → 1 ≤ xs.length
  le : ∀ xs, o = some xs → xs.length ≤ 2
  ok : ∀ xs, o = some xs → ∀ x ∈ xs, NameOk x
  nd : ∀ xs, o = some xs → xs.Nodup
/-- told names, as a list that stands at v, or None -/
def ToldAt (H : Hp) (v : V) (o : Option (List Str)) : Prop := match o with
  | none => v = .non
  | some xs => ∃ l, v = .ref l ∧ H l = some (.lst (xs.map V.str))
theorem ToldAt.mono {H H' : Hp} {v : V} {o : Option (List Str)} (h : ToldAt H v o) (e : Ex H H') : ToldAt H' v o := by
  cases o with
  | none => exact h
  | some xs =>
    obtain ⟨l, hv, hl⟩ := h
    exact ⟨l, hv, e _ _ hl⟩
/-- names kept: a tuple, or None -/
def KeptAt (H : Hp) (v : V) (o : Option (List Str)) : Prop := match o with
  | none => v = .non
  | some xs => ∃ (l : Addr) (ys : List Str), v = .ref l ∧ ys.Perm xs ∧ H l = some (.tup (ys.map V.str))
theorem KeptAt.mono {H H' : Hp} {v : V} {o : Option (List Str)} (h : KeptAt H v o) (e : Ex H H') : KeptAt H' v o := by
  cases o with
  | none => exact h
  | some xs =>
    obtain ⟨l, ys, hv, hp, hl⟩ := h
    exact ⟨l, ys, hv, hp, e _ _ hl⟩
def spName : Sp := fun vs H Q _ => ∃ s : Str, vs = [.str s] ∧ NameOk s ∧ ∀ H', Ex H H' → Q (.bl true) H'
def spUnlike : Sp := fun vs H Q _ => ∃ (l : Addr) (xs : List Str), vs = [.ref l] ∧ H l = some (.lst (xs.map V.str)) ∧ xs.length ≤ 2 ∧ (∀ x ∈ xs, NameOk x) ∧ xs.Nodup ∧ ∀ H', Ex H H' → Q (.bl true) H'
def spTold : Sp := fun vs H Q _ => ∃ (v : V) (o : Option (List Str)), vs = [v] ∧ ToldAt H v o ∧ NamesOk o ∧ ∀ H', Ex H H' → Q (.bl true) H'
def spIsMode : Sp := fun vs H Q _ => ∃ n : Nat, vs = [.int (n : Nat)] ∧ n < 512 ∧ ∀ H', Ex H H' → Q (.bl true) H'
def spAsc : Sp := fun vs H Q _ => ∃ (v : V) (o : Option (List Str)), vs = [v] ∧ ToldAt H v o ∧ NamesOk o ∧ ∀ v' H', Ex H H' → KeptAt H' v' o → Q v' H'
section
variable {K : PySem.W.Frag} {σ : L2.St} {H H' : Hp} {ta tb te : TE} {x y z v : V} {t : Value} {b : Bool} {p : Addr}
theorem ev_isiL2 (ha : Ev ta σ H x) (ty : ∀ H', Ex H H' → TyX K H' x t) (e : PySem.W.kitAny K t [.type "list", .type "tuple"] = some b) : Ev (tCB (rIsiT K) (tCons ta (tCons (tTup (tCons (tC (.ty "list")) (tCons (tC (.ty "tuple")) tNil))) tNil))) σ H (.bl b) := fun H1 e1 Q q =>
  ha H1 e1 _ fun H2 e2 => ⟨by show 2 ≤ sizeLine; decide, fun tp ht => ⟨x, tp, [.ty "list", .ty "tuple"], t, [.type "list", .type "tuple"], b, rfl, upd_same, .cons (.ty _) (.cons (.ty _) .nil), ty _ ((e1.trans e2).trans (Ex.new ht)), e, q _ (e2.trans (Ex.new ht))⟩⟩
theorem kit_l2 : PySem.W.kitAny K (.type "list") [.type "list", .type "tuple"] = some true := kitAny_cons (b := true) (kit_ty (by decide +kernel)) (fun z => nomatch z) (fun _ => rfl)
theorem rv_inS {c : Nat} {w : Str} : RV (fun x y H Q => ∃ (c : Nat) (z : Str), x = .str ⟨#[c]⟩ ∧ y = .str z ∧ Q (.bl (decide (c ∈ z.cps.toList))) H) (.str ⟨#[c]⟩) (.str w) H (.bl (decide (c ∈ w.cps.toList))) := fun H1 _ _ q => ⟨c, w, rfl, rfl, q H1 (Ex.refl H1)⟩
theorem ev_lenStr {s : Str} (h : Ev te σ H (.str s)) (hz : s.length ≤ 100000) : Ev (tCB (fun xs H Q => ∃ z : Str, xs = [.str z] ∧ z.length ≤ sizeLine ∧ Q (.int z.length) H) (tCons te tNil)) σ H (.int (s.length : Nat)) := fun H1 e Q q => h H1 e _ fun H2 e2 => ⟨s, rfl, sz_of hz, q H2 e2⟩
theorem ev_lenSet {xs : List Str} (h : Ev te σ H (.ref p)) (hp : H p = some (.lst (xs.map V.str))) (hz : xs.length ≤ 1000) : Ev (KS.tLenT K te) σ H (.int (KS.unlike xs xs.length : Nat)) := fun H1 e Q q => h H1 e _ fun H2 e2 => ⟨p, xs, rfl, .inl (sq_of ((e.trans e2) _ _ hp)), hz, q H2 e2⟩
end
theorem s_ifRaw {σ : L2.St} {H : Hp} {t : TT} {ta tb : TE} {D : Ends} {b : Bool} (h : EvT t σ H b) (h1 : b = true → ∀ H1, Ex H H1 → ta σ H1 D.rt) (h2 : b = false → ∀ H1, Ex H H1 → tb σ H1 D.rt) : tRet (tIf t ta tb) D σ H := h H (Ex.refl H) _ fun H1 e1 => by
  cases b with
  | true => exact h1 rfl H1 e1
  | false => exact h2 rfl H1 e1
theorem all_trueN : ∀ n : Nat, (((List.range n).map fun _ => true).all id) = true := fun n => by
  rw [List.all_eq_true]
  intro x hx
  obtain ⟨_, _, rfl⟩ := List.mem_map.mp hx
  rfl
section
variable {σ : L2.St} {K : PySem.W.Frag} {H : Hp} {te ta tv : TE} {y : V} {D : Ends}
theorem ev_allL {bs : List Bool} (h : EvL te σ H (bs.map V.bl)) : Ev (tCB (rAll K) (tCons te tNil)) σ H (.bl (bs.all id)) := fun H1 e Q q => h H1 e _ fun p H2 _ e2 hp => ⟨p, bs, rfl, sq_of hp, q H2 e2⟩
end
section
variable {P : Program} {w : World} {K : PySem.W.Frag} {mg : Str → Option Value} {base : Heap} {a : Ads}
theorem ok_is_name (T : Txt w K mg a) : FnOk P w K mg base CX0 1 a.f_is_name a.d_is_name ["value"] spName := by
  refine T.fn_is_name.ok sc_is_name (fun vs H Q E h => ?_) (fun cdv A outer s H vs Q E hr h => ?_)
  · obtain ⟨_, rfl, _⟩ := h
    rfl
  · obtain ⟨s, rfl, ok, k⟩ := h
    refine ⟨_, (pss_cons (ps_if (PW.pt (pw_or (pt_not (pt_val (pe_callB call_isi (by rfl) T.b_isinstance PyProof.Rows.boot_isinstance (pa_cons (pv 0) (pa_cons (pe_bltn (v := .ty "str") (by rfl) T.b_str (by decide +kernel) rfl) pa_nil))))) (pw_or1 (pt_not (pt_chain op_le op_le pe_int (pe_callB call_len_str (by rfl) T.b_len PySem.boot_len (pa_cons (pv 0) pa_nil)) pe_int))))) (pss_one (ps_ret pe_bl)) pss_nil)
    (pss_one (ps_ret (pe_callB (cr_all rfl) (by rfl) T.b_all (by decide +kernel) (pa_cons (pe_lc (own := [("letter", 1)]) (g := gName 1) rfl sc_is_name.nd (pi_str (pv 0)) (blkOk_by (own := [("letter", 1)]) (N := n_is_name) (sc := defScope s_is_name) (by decide +kernel)) (fun _ _ _ _ _ => (pg_name (i := 1) sc_is_name.nd rfl (Or.inl rfl))) (fun _ _ _ _ _ => pts_nil) (fun _ _ _ _ _ => (pe_cmpR op_in_sign (pv 1) (pe_glob (v := .str "abcdefghijklmnopqrstuvwxyz") rfl T.mg_LETTERS.choose_spec ⟨_, rfl⟩) (by rfl)))) pa_nil))))), ?_⟩
    have h1 : 1 ≤ s.length := ok.pos
    have h8 : s.length ≤ 8 := ok.le
    refine q_when (b := false) (et_is (et_or (a := false) (b := false) (et_is (et_not (a := true) (et_B (ev_isi (ea_cons (ev_var rfl) (ea_cons ev_c ea_nil)) (.ty _) (fun _ _ => .base (.str _)) (kit_ty (by decide +kernel))))) rfl) fun _ => et_is (et_not (a := true) (et_test (ev_is (ev_chain ev_c (ev_lenStr (ev_var rfl) (by omega)) rv_I0 fun _ => ⟨ev_c, rv_I0⟩) ?_))) rfl) rfl) (fun z => nomatch z) fun _ H1 e1 => ?_
    · rw [decide_eq_true (show (1 : Int) ≤ (s.length : Nat) by omega), decide_eq_true (show ((s.length : Nat) : Int) ≤ 8 by omega)] <;> rfl
    refine s_ret (v := .bl true) (ev_is (ev_allL (bs := (List.range s.cps.size).map fun _ => true) (K := K) (el_is (el_lcS (s := s) (fun _ => true) (fun _ => .bl true) (ev_var rfl) (by have := ok.le; omega) (fun _ => rfl) (fun i c H4 e4 hx => et_yes) fun i c H4 e4 hx _ => ?_) ?_)) (congrArg V.bl (all_trueN _))) fun H2 e2 => k H2 (e1.trans e2)
    · have hc : c ∈ s.cps.toList := by
        rw [← Array.getElem?_toList] at hx
        exact List.mem_of_getElem? hx
      exact ev_is (ev_op (ev_var rfl) ev_c rv_inS) (congrArg V.bl (decide_eq_true (ok.all c hc)))
    · rw [given_all, List.map_map]
      rfl
theorem ok_unlike (T : Txt w K mg a) : FnOk P w K mg base CX0 2 a.f_are_unlike_names a.d_are_unlike_names ["values"] spUnlike := by
  have G_is_name : FnOk P w K mg base CX0 1 _ _ _ _ := ok_is_name T
  refine T.fn_are_unlike_names.ok sc_are_unlike_names (fun vs H Q E h => ?_) (fun cdv A outer s H vs Q E hr h => ?_)
  · obtain ⟨_, _, rfl, _⟩ := h
    rfl
  · obtain ⟨l, xs, rfl, hl, h2, ok, nd, k⟩ := h
    have hrc : Room 1 _ := hr
    refine ⟨_, (pss_cons (ps_if (pt_not (pt_val (pe_callB (cr_all rfl) (by rfl) T.b_all (by decide +kernel) (pa_cons (pe_lc (own := [("value", 1)]) (g := gName 1) rfl sc_are_unlike_names.nd (pi_list (pv 0)) (blkOk_by (own := [("value", 1)]) (N := n_are_unlike_names) (sc := defScope s_are_unlike_names) (by decide +kernel)) (fun _ _ _ _ _ => (pg_name (i := 1) sc_are_unlike_names.nd rfl (Or.inl rfl))) (fun _ _ _ _ _ => pts_nil) (fun _ _ _ _ _ => (pe_call G_is_name hrc rfl T.mg_is_name T.fn_is_name.kp (bd_is_name T) .nil pass0 (pa_cons (pv 1) pa_nil)))) pa_nil)))) (pss_one (ps_ret pe_bl)) pss_nil)
    (pss_one (ps_ret (pe_cmpR op_eq (KS.pe_lenT (K := K) rfl rfl (by rfl) T.b_len (by rfl) T.b_set (pv 0)) (pe_callB call_len_seq (by rfl) T.b_len PySem.boot_len (pa_cons (pv 0) pa_nil)) (nomark _))))), ?_⟩
    refine q_when (b := false) (et_is (et_not (a := true) (et_B (ev_is (ev_allL (bs := (List.range (xs.map V.str).length).map fun _ => true) (K := K) (el_is (el_lcL (K := K) (xs := xs.map V.str) (fun _ => true) (fun _ => .bl true) (ev_var rfl) (sq_of hl) (by rw [List.length_map]; omega) (fun _ => rfl) (fun i x H4 e4 hx => et_yes) fun i x H4 e4 hx _ => ?_) ?_)) (congrArg V.bl (all_trueN _))))) rfl) (fun z => nomatch z) fun _ H1 e1 => ?_
    · rw [List.getElem?_map] at hx
      obtain ⟨y, hy, rfl⟩ := Option.map_eq_some_iff.mp hx
      exact ev_call (vs := [.str y]) (ea_cons (ev_var rfl) ea_nil) fun H5 e5 Q q E => ⟨y, rfl, ok y (List.mem_of_getElem? hy), q⟩
    · rw [given_all, List.map_map]
      rfl
    · have hl1 := e1 _ _ hl
      refine s_ret (v := .bl true) (ev_is (ev_op (ev_lenSet (K := K) (ev_var rfl) hl1 (by omega)) (ev_lenS (K := K) (ev_var rfl) (sq_of hl1)) (rv_eq rfl)) (congrArg V.bl (decide_eq_true (congrArg V.int ?_)))) fun H2 e2 => k H2 (e1.trans e2)
      rw [unlike_ok h2 nd, List.length_map]
theorem ok_told (T : Txt w K mg a) : FnOk P w K mg base CX0 3 a.f_are_told a.d_are_told ["names"] spTold := by
  have G_are_unlike_names : FnOk P w K mg base CX0 2 _ _ _ _ := ok_unlike T
  refine T.fn_are_told.ok sc_are_told (fun vs H Q E h => ?_) (fun cdv A outer s H vs Q E hr h => ?_)
  · obtain ⟨_, _, rfl, _⟩ := h
    rfl
  · obtain ⟨v, o, rfl, h, ok, k⟩ := h
    have hrc : Room 2 _ := hr
    refine ⟨_, (pss_cons (ps_if (pt_cmpR op_isN (pv 0) pe_non (nomark _)) (pss_one (ps_ret pe_bl)) pss_nil)
    (pss_one (ps_ret (pe_and (pe_callB call_isiT (by rfl) T.b_isinstance PyProof.Rows.boot_isinstance (pa_cons (pv 0) (pa_cons (pe_tup (pa_cons (pe_bltn (v := .ty "list") (by rfl) T.b_list (by decide +kernel) rfl) (pa_cons (pe_bltn (v := .ty "tuple") (by rfl) T.b_tuple (by decide +kernel) rfl) pa_nil))) pa_nil))) (pe_and (pe_chain op_le op_le pe_int (pe_callB call_len_seq (by rfl) T.b_len PySem.boot_len (pa_cons (pv 0) pa_nil)) pe_int) (pe_one (pe_call G_are_unlike_names hrc rfl T.mg_are_unlike_names T.fn_are_unlike_names.kp (bd_are_unlike_names T) .nil pass0 (pa_cons (pv 0) pa_nil)))))))), ?_⟩
    cases o with
    | none =>
      obtain rfl : v = .non := h
      refine q_when (b := true) (et_is (et_test (ev_op (ev_var rfl) ev_c rv_isN)) rfl) (fun _ H1 e1 => ?_) (fun z => nomatch z)
      exact s_ret (v := .bl true) ev_c fun H2 e2 => k H2 (e1.trans e2)
    | some xs =>
      obtain ⟨l, rfl, hl⟩ := h
      refine q_when (b := false) (et_is (et_test (ev_op (ev_var rfl) ev_c rv_isN)) (decide_eq_false fun z => nomatch z)) (fun z => nomatch z) fun _ H1 e1 => ?_
      have hl1 := e1 _ _ hl
      have h1 := ok.pos xs rfl
      have h2 := ok.le xs rfl
      refine s_ret (v := .bl true) (ev_is (ev_andV (a := true) (b := true) (ev_isiL2 (K := K) (ev_var rfl) (fun _ e => .base (.lst (e _ _ hl1))) kit_l2) fun _ => ev_is (ev_andV (a := true) (b := true) (ev_is (ev_chain ev_c (ev_lenS (K := K) (ev_var rfl) (sq_of hl1)) rv_I0 fun _ => ⟨ev_c, rv_I0⟩) ?_) fun _ => ev_call (vs := [.ref l]) (ea_cons (ev_var rfl) ea_nil) fun H5 e5 Q q E => ⟨l, xs, rfl, e5 _ _ hl1, h2, ok.ok xs rfl, ok.nd xs rfl, q⟩) rfl) rfl) fun H2 e2 => k H2 (e1.trans e2)
      rw [List.length_map, decide_eq_true (show (1 : Int) ≤ (xs.length : Nat) by omega), decide_eq_true (show ((xs.length : Nat) : Int) ≤ 2 by omega)] <;> rfl
theorem ok_is_mode (T : Txt w K mg a) : FnOk P w K mg base CX0 4 a.f_is_mode a.d_is_mode ["value"] spIsMode := by
  have G_is_whole_to : FnOk P w K mg base CX0 3 _ _ _ _ := ok_is_whole_to T
  refine T.fn_is_mode.ok sc_is_mode (fun vs H Q E h => ?_) (fun cdv A outer s H vs Q E hr h => ?_)
  · obtain ⟨_, rfl, _⟩ := h
    rfl
  · obtain ⟨n, rfl, hn, k⟩ := h
    have hrc : Room 3 _ := hr
    obtain ⟨tm, hm⟩ := T.k_Mode_MOST
    refine ⟨_, (pss_one (ps_ret (pe_or (pe_callB call_isi (by rfl) T.b_isinstance PyProof.Rows.boot_isinstance (pa_cons (pv 0) (pa_cons (pe_glob (v := .ref a.f_Mode) rfl T.mg_Mode rfl) pa_nil))) (pe_one (pe_call G_is_whole_to hrc rfl T.mg_is_whole_to T.fn_is_whole_to.kp (bd_is_whole_to T) .nil pass0 (pa_cons (pv 0) (pa_cons (ClX.pe_cval (pe_glob (v := .ref a.f_Mode) rfl T.mg_Mode rfl)) pa_nil))))))), ?_⟩
    exact s_ret (v := .bl true) (ev_is (ev_orV (a := false) (b := true) (ev_isi (ea_cons (ev_var rfl) (ea_cons ev_c ea_nil)) (.own _) (fun _ _ => .base (.int n)) T.ii_Mode) fun _ => ev_call (vs := [.int n, .int 511]) (ea_cons (ev_var rfl) (ea_cons (ev_cval ev_c T.r_Mode hm) ea_nil)) fun H1 e Q q E => ⟨n, 511, rfl, by omega, by omega, q⟩) rfl) fun H2 e2 => k H2 e2
theorem ok_asc (T : Txt w K mg a) : FnOk P w K mg base CX0 1 a.f_ascending a.d_ascending ["names"] spAsc := by
  refine T.fn_ascending.ok sc_ascending (fun vs H Q E h => ?_) (fun cdv A outer s H vs Q E hr h => ?_)
  · obtain ⟨_, _, rfl, _⟩ := h
    rfl
  · obtain ⟨v, o, rfl, h, ok, k⟩ := h
    refine ⟨_, (pss_one (ps_ret (pe_ifExp (pt_cmpR op_isN (pv 0) pe_non (nomark _)) pe_non (pe_callTy call_tuple_of (by rfl) T.b_tuple (by decide +kernel) (pa_cons (pe_callB cr_sortedS (by rfl) T.b_sorted (by decide +kernel) (pa_cons (pv 0) pa_nil)) pa_nil))))), ?_⟩
    cases o with
    | none =>
      obtain rfl : v = .non := h
      exact s_ret (v := .non) (ev_if (b := true) (et_is (et_test (ev_op (ev_var rfl) ev_c rv_isN)) rfl) (fun _ => ev_c) fun z => nomatch z) fun H2 e2 => k _ H2 e2 rfl
    | some xs =>
      obtain ⟨l, rfl, hl⟩ := h
      refine s_ifRaw (b := false) (et_is (et_test (ev_op (ev_var rfl) ev_c rv_isN)) (decide_eq_false fun z => nomatch z)) (fun z => nomatch z) fun _ H1 e1 => ?_
      refine ⟨.ref l, rfl, l, xs, rfl, sq_of (e1 _ _ hl), ?_, fun ys p hperm _ hp => ⟨p, _, rfl, .inl ⟨sq_of upd_same, fun t ht => k _ _ ((e1.trans (Ex.new hp)).trans (Ex.new ht)) ⟨t, ys, rfl, hperm, upd_same⟩⟩⟩⟩
      have := ok.le xs rfl
      omega
end
end KG
set_option Elab.async false
set_option linter.all false
set_option maxRecDepth 100000
set_option maxHeartbeats 4000000
namespace KG
open PySem PySem.Spec PyProof.Rows L2 Evl KF
local macro_rules | `(tactic| walk_at "ev") => `(tactic| repeat' (first | exact ev_c | exact ev_var rfl | exact rv_I0 | refine' rv_I ?_ | refine' rv_eq ?_ | refine' rv_ne ?_ | refine' ev_op ?_ ?_ ?_ | exact ea_nil | refine' ea_cons ?_ ?_ | refine' et_test ?_ | refine' et_B ?_ | refine' et_not ?_ | refine' ev_notV ?_))

open PySem
/-! ### lines: made, asked -/
structure Ln where
  form : Str
  o1 : Option (List Str)
  o2 : Option (List Str)
  must : Nat
  never : Nat
structure LnOk (L : Ln) : Prop where
  form : L.form = "file" ∨ L.form = "folder"
  n1 : NamesOk L.o1
  n2 : NamesOk L.o2
  must : L.must < 512
  never : L.never < 512
  apart : Builtin.bitAnd (L.must : Int) (L.never : Int) = 0
def lnFs (f : Str) (v1 v2 : V) (m1 m2 : Addr) : List (Str × V) := putF "_never" (.ref m2) (putF "_must" (.ref m1) (putF "_groups" v2 (putF "_owners" v1 (putF "_form" (.str f) []))))
theorem fs_form (f : Str) (v1 v2 : V) (m1 m2 : Addr) : (lnFs f v1 v2 m1 m2).lookup ("_form" : Str) = some (.str f) := by
  unfold lnFs
  rw [lookup_putF, if_neg (by decide +kernel), lookup_putF, if_neg (by decide +kernel), lookup_putF, if_neg (by decide +kernel), lookup_putF, if_neg (by decide +kernel), lookup_putF, if_pos rfl]
theorem fs_owners (f : Str) (v1 v2 : V) (m1 m2 : Addr) : (lnFs f v1 v2 m1 m2).lookup ("_owners" : Str) = some v1 := by
  unfold lnFs
  rw [lookup_putF, if_neg (by decide +kernel), lookup_putF, if_neg (by decide +kernel), lookup_putF, if_neg (by decide +kernel), lookup_putF, if_pos rfl]
theorem fs_groups (f : Str) (v1 v2 : V) (m1 m2 : Addr) : (lnFs f v1 v2 m1 m2).lookup ("_groups" : Str) = some v2 := by
  unfold lnFs
  rw [lookup_putF, if_neg (by decide +kernel), lookup_putF, if_neg (by decide +kernel), lookup_putF, if_pos rfl]
theorem fs_must (f : Str) (v1 v2 : V) (m1 m2 : Addr) : (lnFs f v1 v2 m1 m2).lookup ("_must" : Str) = some (.ref m1) := by
  unfold lnFs
  rw [lookup_putF, if_neg (by decide +kernel), lookup_putF, if_pos rfl]
theorem fs_never (f : Str) (v1 v2 : V) (m1 m2 : Addr) : (lnFs f v1 v2 m1 m2).lookup ("_never" : Str) = some (.ref m2) := by
  unfold lnFs
  rw [lookup_putF, if_pos rfl]
theorem fs_no (f : Str) (v1 v2 : V) (m1 m2 : Addr) : (lnFs f v1 v2 m1 m2).lookup ("lets_names" : Str) = none ∧ (lnFs f v1 v2 m1 m2).lookup ("lets" : Str) = none ∧ (lnFs f v1 v2 m1 m2).lookup ("patterns" : Str) = none := by
  unfold lnFs
  refine ⟨?_, ?_, ?_⟩ <;> (rw [lookup_putF, if_neg (by decide +kernel), lookup_putF, if_neg (by decide +kernel), lookup_putF, if_neg (by decide +kernel), lookup_putF, if_neg (by decide +kernel), lookup_putF, if_neg (by decide +kernel)]; rfl)
theorem ev_meth {σ : L2.St} {H : Hp} {tf : TE} {ta : TA} {b C dx : Addr} {fs : List (Str × V)} {m : Str} {vs : List V} {v : V} {sp : Sp} {E : XK} (hf : Ev tf σ H (.ref b)) (ha : EvA ta σ H vs) (ho : H b = some (.ins C dx fs)) (l : fs.lookup m = none) (hs : ∀ H1, Ex H H1 → ∀ Q : VK, (∀ H2, Ex H1 H2 → Q v H2) → ∀ E, sp (.ref b :: (vs ++ [])) H1 Q E) : Ev (tMeth C m sp [] E tf ta) σ H v := fun H1 e Q q =>
  hf H1 e _ fun H2 e2 => ⟨b, dx, fs, rfl, e2 _ _ (e _ _ ho), l, ha H2 (e.trans e2) _ fun H3 e3 => hs H3 ((e.trans e2).trans e3) Q (fun H4 e4 => q H4 ((e2.trans e3).trans e4)) E⟩
def LineAt (a : Ads) (H : Hp) (b : Addr) (L : Ln) : Prop := ∃ dx v1 v2 m1 m2, H b = some (.ins a.f_Line dx (lnFs L.form v1 v2 m1 m2)) ∧ KeptAt H v1 L.o1 ∧ KeptAt H v2 L.o2 ∧ ModeAt a H m1 L.must ∧ ModeAt a H m2 L.never
theorem LineAt.mono {a : Ads} {H H' : Hp} {b : Addr} {L : Ln} (h : LineAt a H b L) (e : Ex H H') : LineAt a H' b L := let ⟨dx, v1, v2, m1, m2, h0, h1, h2, h3, h4⟩ := h; ⟨dx, v1, v2, m1, m2, e _ _ h0, h1.mono e, h2.mono e, h3.mono e, h4.mono e⟩
theorem KeptAt.exI {H H' : Hp} {v : V} {o : Option (List Str)} {p C dx : Addr} {fs : List (Str × V)} (h : KeptAt H v o) (hp : H p = some (.ins C dx fs)) (e : ExB p H H') : KeptAt H' v o := by
  cases o with
  | none => exact h
  | some xs =>
    obtain ⟨l, ys, hv, hm, hl⟩ := h
    exact ⟨l, ys, hv, hm, e _ _ hl (ne_of hl hp fun z => nomatch z)⟩
theorem ModeAt.exN {a : Ads} {H H' : Hp} {p q : Addr} {n : Nat} (h : ModeAt a H q n) (ne : q ≠ p) (e : ExB p H H') : ModeAt a H' q n := let ⟨dx, h⟩ := h; ⟨dx, e _ _ h ne⟩
def EvP (te : TE) (σ : L2.St) (H : Hp) (P : Hp → V → Prop) : Prop := ∀ H1, Ex H H1 → ∀ Q : VK, (∀ v H2, Ex H1 H2 → P H2 v → Q v H2) → te σ H1 Q
section
variable {K : PySem.W.Frag} {σ : L2.St} {H : Hp} {te ta tv : TE} {y : V} {D : Ends} {tz : TS} {P : Hp → V → Prop} {a : Ads}
theorem et_truth {i : Int} (h : Ev te σ H (.int i)) : EvT (fun σ H Q => te σ H fun x H' => ∃ k, TruV K x H' k ∧ Q k H') σ H (i != 0) := fun H1 e Q q => h H1 e _ fun H2 e2 => ⟨_, rfl, q H2 e2⟩
theorem q_fldP {p C dx : Addr} {fs : List (Str × V)} {f : Str} (hv : EvP tv σ H P) (ha : ∀ H1, Ex H H1 → Ev ta σ H1 (.ref p)) (hp : H p = some (.ins C dx fs)) (c : Cls K C) (n : NoAttr K C f) (hl : fs.length < 1000)
    (k : ∀ v H1 H2 H3, Ex H H1 → P H1 v → Ex H1 H2 → H3 = upd H2 p (.ins C dx (putF f v fs)) → tz D σ H3) : tSeq (sFld K ta tv f) tz D σ H :=
  hv H (Ex.refl _) _ fun v H1 e1 hP => ha H1 e1 H1 (Ex.refl _) _ fun H2 e2 => ⟨p, C, dx, fs, rfl, e2 _ _ (e1 _ _ hp), c, n, hl, k v H1 H2 _ e1 hP e2 rfl⟩
theorem s_fldP {p C dx : Addr} {fs : List (Str × V)} {f : Str} (hv : EvP tv σ H P) (ha : ∀ H1, Ex H H1 → Ev ta σ H1 (.ref p)) (hp : H p = some (.ins C dx fs)) (c : Cls K C) (n : NoAttr K C f) (hl : fs.length < 1000)
    (k : ∀ v H1 H2 H3, Ex H H1 → P H1 v → Ex H1 H2 → H3 = upd H2 p (.ins C dx (putF f v fs)) → D.nx σ H3) : sFld K ta tv f D σ H :=
  hv H (Ex.refl _) _ fun v H1 e1 hP => ha H1 e1 H1 (Ex.refl _) _ fun H2 e2 => ⟨p, C, dx, fs, rfl, e2 _ _ (e1 _ _ hp), c, n, hl, k v H1 H2 _ e1 hP e2 rfl⟩
theorem exb_upd {H H1 H2 H3 : Hp} {p : Addr} {o : HO} (e1 : Ex H H1) (e2 : Ex H1 H2) (h : H3 = upd H2 p o) : ExB p H H3 := fun b u hb ne => by
  rw [h, upd_ne ne]
  exact e2 _ _ (e1 _ _ hb)
theorem ep_asc {v : V} {o : Option (List Str)} {E : XK} (h : Ev te σ H v) (t : ToldAt H v o) (ok : NamesOk o) : EvP (tCall spAsc [] E (tCons te tNil)) σ H (fun H v => KeptAt H v o) := fun H1 e Q q => h H1 e _ fun H2 e2 => ⟨v, o, rfl, t.mono (e.trans e2), ok, fun v' H3 e3 k3 => q v' H3 (e2.trans e3) k3⟩
theorem ep_mode {n : Nat} {b : Addr} {o : HO} (h : EvM a te σ H n) (hb : H b = some o) : EvP te σ H (fun H v => ∃ q, v = .ref q ∧ q ≠ b ∧ ModeAt a H q n) := fun H1 e Q q => h H1 e Q fun p H2 hp e2 m => q _ H2 e2 ⟨p, rfl, (ne_of_none (e _ _ hb) hp).symm, m⟩
end
/-- a name is let -/
def namesB (o : Option (List Str)) (w : Str) : Bool := match o with
  | none => true
  | some xs => decide (w ∈ xs)
theorem inV_strs (w : Str) : ∀ ys : List Str, inV (.str w) (ys.map V.str) = decide (w ∈ ys)
  | [] => rfl
  | y :: ys => by
    have ih := inV_strs w ys
    unfold inV at ih ⊢
    rw [List.map_cons, List.any_cons, ih]
    by_cases h : w = y
    · subst h
      simp [eqV]
    · have : eqV (.str y) (.str w) = false ∨ eqV (.str w) (.str y) = false := by simp [eqV, h, Ne.symm h]
      simp [eqV, h, Ne.symm h]
theorem flat_strs : ∀ ys : List Str, (ys.map V.str).all flatV = true
  | [] => rfl
  | _ :: ys => flat_strs ys
def letsB (L : Ln) (f : Str) (n : Nat) (o g : Str) : Bool := decide (f = L.form) && (namesB L.o1 o && namesB L.o2 g) && (decide (Builtin.bitAnd (n : Int) (L.must : Int) = (L.must : Int)) && decide (Builtin.bitAnd (n : Int) (L.never : Int) = 0))
def patB (L : Ln) (i p : Nat) : Bool := decide (Builtin.bitAnd (p : Int) (patN L.must (wtN i) : Nat) = (patN L.must (wtN i) : Nat)) && decide (Builtin.bitAnd (p : Int) (patN L.never (wtN i) : Nat) = 0)
theorem len2 (f g : Str) (x y : V) : (putF f x (putF g y [])).length < 1000 := by
  have h1 := length_putF f x (putF g y [])
  have h2 := length_putF g y []
  simp only [List.length_nil] at h2
  omega
theorem len3 (f g h : Str) (x y z : V) : (putF f x (putF g y (putF h z []))).length < 1000 := by
  have h1 := length_putF f x (putF g y (putF h z []))
  have h2 := length_putF g y (putF h z [])
  have h3 := length_putF h z []
  simp only [List.length_nil] at h3
  omega
theorem len4 (f g h i : Str) (x y z w : V) : (putF f x (putF g y (putF h z (putF i w [])))).length < 1000 := by
  have h1 := length_putF f x (putF g y (putF h z (putF i w [])))
  have h2 := length_putF g y (putF h z (putF i w []))
  have h3 := length_putF h z (putF i w [])
  have h4 := length_putF i w []
  simp only [List.length_nil] at h4
  omega
/-- self.f is None or w in self.f -/
theorem ev_own {K : PySem.W.Frag} {σ : L2.St} {H : Hp} {te ty : TE} {b C dx : Addr} {fs : List (Str × V)} {f : Str} {v : V} {o : Option (List Str)} {w : Str} (h : ∀ {H1 : Hp}, Ev te σ H1 (.ref b)) (ho : H b = some (.ins C dx fs)) (c : Cls K C) (n : NoAttr K C f) (l : fs.lookup f = some v) (kv : KeptAt H v o) (hw : Ev ty σ H (.str w)) :
    Ev (tOrV (tOp (fun x y H Q => y = .non ∧ Q (.bl (decide (x = .non))) H) (tFld K te f) (tC .non)) (tOp (rIn K false) ty (tFld K te f))) σ H (.bl (namesB o w)) := by
  cases o with
  | none =>
    obtain rfl : v = .non := kv
    exact ev_is (ev_orV (a := true) (b := true) (ev_is (ev_op (ev_fld h ho c n l) ev_c rv_isN) rfl) fun z => nomatch z) rfl
  | some xs =>
    obtain ⟨t, ys, rfl, hp, ht⟩ := kv
    refine ev_is (ev_orV (a := false) (b := decide (w ∈ ys)) (ev_is (ev_op (ev_fld h ho c n l) ev_c rv_isN) rfl) fun _ => ev_is (ev_op hw (ev_fld h ho c n l) (rv_isT (K := K) (st_of ht) rfl (flat_strs _))) (congrArg V.bl (inV_strs _ _))) (congrArg V.bl ?_)
    show decide (w ∈ ys) = decide (w ∈ xs)
    exact decide_eq_decide.mpr hp.mem_iff
def spLine (a : Ads) : Sp := fun vs H Q _ => ∃ (b dx : Addr) (v1 v2 : V) (L : Ln), vs = [.ref b, .str L.form, v1, v2, .int (L.must : Nat), .int (L.never : Nat)] ∧ LnOk L ∧ H b = some (.ins a.f_Line dx []) ∧ ToldAt H v1 L.o1 ∧ ToldAt H v2 L.o2 ∧ ∀ H', ExB b H H' → LineAt a H' b L → Q .non H'
def spLetsN (a : Ads) : Sp := fun vs H Q _ => ∃ (b : Addr) (L : Ln) (o g : Str), vs = [.ref b, .str o, .str g] ∧ LineAt a H b L ∧ ∀ H', Ex H H' → Q (.bl (namesB L.o1 o && namesB L.o2 g)) H'
def spLets (a : Ads) : Sp := fun vs H Q _ => ∃ (b : Addr) (L : Ln) (f o g : Str) (v : V) (n : Nat), vs = [.ref b, .str f, v, .str o, .str g] ∧ LineAt a H b L ∧ n < 512 ∧ (v = .int n ∨ ∃ p, v = .ref p ∧ ModeAt a H p n) ∧ ∀ H', Ex H H' → Q (.bl (letsB L f n o g)) H'
def spPats (a : Ads) : Sp := fun vs H Q _ => ∃ (b : Addr) (L : Ln) (i : Nat), vs = [.ref b, .str (letS i)] ∧ LineAt a H b L ∧ LnOk L ∧ i < 3 ∧ ∀ q H', H q = none → Ex H H' → H' q = some (.lst (given 8 (patB L i) fun p => .int (p : Nat))) → Q (.ref q) H'
section
variable {P : Program} {w : World} {K : PySem.W.Frag} {mg : Str → Option Value} {base : Heap} {a : Ads}
theorem ok_Line_init (T : Txt w K mg a) : FnOk P w K mg base CX0 7 a.f_LineD_initD a.d_LineD_initD ["self", "form", "owners", "groups", "must", "never"] (spLine a) := by
  have G_are_told : FnOk P w K mg base CX0 6 _ _ _ _ := (ok_told T).mono (by decide)
  have G_is_mode : FnOk P w K mg base CX0 6 _ _ _ _ := (ok_is_mode T).mono (by decide)
  have G_number_of : FnOk P w K mg base CX0 6 _ _ _ _ := (ok_number_of T).mono (by decide)
  have G_ascending : FnOk P w K mg base CX0 6 _ _ _ _ := (ok_asc T).mono (by decide)
  have G_Mode_init : FnOk P w K mg base CX0 5 _ _ _ _ := ok_Mode_init T
  refine T.fn_LineD_initD.ok sc_LineD_initD (fun vs H Q E h => ?_) (fun cdv A outer s H vs Q E hr h => ?_)
  · obtain ⟨_, _, _, _, _, rfl, _⟩ := h
    rfl
  · obtain ⟨b, dx, v1, v2, L, rfl, ok, hb, t1, t2, k⟩ := h
    have hrc : Room 6 _ := hr
    have hrm : Room (5 + 1) _ := hr
    refine ⟨_, (pss_cons (ps_if (pt_cmpR op_notIn_seq (pv 1) (pe_glob (v := .ref a.k_FORMS) rfl T.mg_FORMS rfl) (by rfl)) (pss_one ps_never) pss_nil)
    (pss_cons (ps_if (pt_not (pt_val (pe_call G_are_told hrc rfl T.mg_are_told T.fn_are_told.kp (bd_are_told T) .nil pass0 (pa_cons (pv 2) pa_nil)))) (pss_one ps_never) pss_nil)
    (pss_cons (ps_if (pt_not (pt_val (pe_call G_are_told hrc rfl T.mg_are_told T.fn_are_told.kp (bd_are_told T) .nil pass0 (pa_cons (pv 3) pa_nil)))) (pss_one ps_never) pss_nil)
    (pss_cons (ps_if (pt_not (pt_val (pe_call G_is_mode hrc rfl T.mg_is_mode T.fn_is_mode.kp (bd_is_mode T) .nil pass0 (pa_cons (pv 4) pa_nil)))) (pss_one ps_never) pss_nil)
    (pss_cons (ps_if (PW.pt (pw_or (pt_not (pt_val (pe_call G_is_mode hrc rfl T.mg_is_mode T.fn_is_mode.kp (bd_is_mode T) .nil pass0 (pa_cons (pv 5) pa_nil)))) (pw_or1 (pt_truth (pe_op op_and (pe_call G_number_of hrc rfl T.mg_number_of T.fn_number_of.kp (bd_number_of T) .nil pass0 (pa_cons (pv 4) pa_nil)) (pe_call G_number_of hrc rfl T.mg_number_of T.fn_number_of.kp (bd_number_of T) .nil pass0 (pa_cons (pv 5) pa_nil))) (by intro _; rfl))))) (pss_one ps_never) pss_nil)
    (pss_cons (ps_fld (pv 0) (pv 1) rfl)
    (pss_cons (ps_fld (pv 0) (pe_call G_ascending hrc rfl T.mg_ascending T.fn_ascending.kp (bd_ascending T) .nil pass0 (pa_cons (pv 2) pa_nil)) rfl)
    (pss_cons (ps_fld (pv 0) (pe_call G_ascending hrc rfl T.mg_ascending T.fn_ascending.kp (bd_ascending T) .nil pass0 (pa_cons (pv 3) pa_nil)) rfl)
    (pss_cons (ps_fld (pv 0) (pe_make T.mk_Mode G_Mode_init hrm rfl T.mg_Mode (bd_ModeD_initD T) .nil pass0 (pa_cons (pe_call G_number_of hrc rfl T.mg_number_of T.fn_number_of.kp (bd_number_of T) .nil pass0 (pa_cons (pv 4) pa_nil)) pa_nil)) rfl)
    (pss_one (ps_fld (pv 0) (pe_make T.mk_Mode G_Mode_init hrm rfl T.mg_Mode (bd_ModeD_initD T) .nil pass0 (pa_cons (pe_call G_number_of hrc rfl T.mg_number_of T.fn_number_of.kp (bd_number_of T) .nil pass0 (pa_cons (pv 5) pa_nil)) pa_nil)) rfl))))))))))), ?_⟩
    refine q_when (b := false) (et_is (et_test (ev_op (ev_var rfl) ev_c (rv_niT (K := K) (T.t_FORMS _) rfl rfl))) ?_) (fun z => nomatch z) fun _ H1 e1 => ?_
    · rcases ok.form with z | z <;> rw [z] <;> decide +kernel
    refine q_when (b := false) (et_is (et_not (a := true) (et_B (ev_call (vs := [v1]) (ea_cons (ev_var rfl) ea_nil) fun H2 e Q q E => ⟨v1, L.o1, rfl, t1.mono (e1.trans e), ok.n1, q⟩))) rfl) (fun z => nomatch z) fun _ H2 e2 => ?_
    refine q_when (b := false) (et_is (et_not (a := true) (et_B (ev_call (vs := [v2]) (ea_cons (ev_var rfl) ea_nil) fun H3 e Q q E => ⟨v2, L.o2, rfl, t2.mono ((e1.trans e2).trans e), ok.n2, q⟩))) rfl) (fun z => nomatch z) fun _ H3 e3 => ?_
    refine q_when (b := false) (et_is (et_not (a := true) (et_B (ev_call (vs := [.int (L.must : Nat)]) (ea_cons (ev_var rfl) ea_nil) fun H3 e Q q E => ⟨L.must, rfl, ok.must, q⟩))) rfl) (fun z => nomatch z) fun _ H4 e4 => ?_
    have num : ∀ (j : Nat) (n : Nat) {σ : L2.St} {H5 : Hp} {E : XK}, n < 512 → σ[j]? = some (some (.int (n : Nat))) → Ev (tCall (spNum a) [] E (tCons (tVar j) tNil)) σ H5 (.int (n : Nat)) := fun j n σ H5 E hn hs => ev_call (vs := [.int (n : Nat)]) (ea_cons (ev_var hs) ea_nil) fun H6 e Q q E => ⟨_, n, rfl, hn, .inl rfl, q⟩
    refine q_when (b := false) (et_is (et_or (a := false) (b := false) (et_is (et_not (a := true) (et_B (ev_call (vs := [.int (L.never : Nat)]) (ea_cons (ev_var rfl) ea_nil) fun H3 e Q q E => ⟨L.never, rfl, ok.never, q⟩))) rfl) fun _ => et_is (et_truth (K := K) (ev_op (num 4 L.must ok.must rfl) (num 5 L.never ok.never rfl) rv_I0)) (by rw [ok.apart]; rfl)) rfl) (fun z => nomatch z) fun _ H5 e5 => ?_
    have e05 := (((e1.trans e2).trans e3).trans e4).trans e5
    have hb5 := e05 _ _ hb
    refine q_fld (y := .str L.form) (ev_var rfl) (ev_var rfl) hb5 T.c_Line T.n_form_Line (by decide) fun H6 e6 hb6 => ?_
    have told : ∀ {v : V} {o : Option (List Str)} {H H' : Hp} {C dx : Addr} {fs : List (Str × V)}, ToldAt H v o → H b = some (.ins C dx fs) → ExB b H H' → ToldAt H' v o := fun {v o H H' C dx fs} h hb e => by
      cases o with
      | none => exact h
      | some xs =>
        obtain ⟨l, hv, hl⟩ := h
        exact ⟨l, hv, e _ _ hl (ne_of hl hb fun z => nomatch z)⟩
    refine q_fldP (ep_asc (o := L.o1) (ev_var rfl) (told (t1.mono e05) hb5 e6) ok.n1) (fun _ _ => ev_var rfl) hb6 T.c_Line T.n_owners_Line (by show 1 < 1000; decide) fun w1 H7 H8 H9 e7 k1 e8 h9 => ?_
    have b9 := exb_upd e7 e8 h9
    have hb9 : H9 b = some (.ins a.f_Line dx (putF "_owners" w1 (putF "_form" (.str L.form) []))) := by rw [h9]; exact upd_same
    have k19 : KeptAt H9 w1 L.o1 := k1.exI (e7 _ _ hb6) (exb_upd (Ex.refl _) e8 h9)
    refine q_fldP (ep_asc (o := L.o2) (ev_var rfl) (told (t2.mono e05) hb5 (e6.trans b9)) ok.n2) (fun _ _ => ev_var rfl) hb9 T.c_Line T.n_groups_Line (len2 _ _ _ _) fun w2 H10 H11 H12 e10 k2 e11 h12 => ?_
    have b12 := exb_upd e10 e11 h12
    have hb12 : H12 b = some (.ins a.f_Line dx (putF "_groups" w2 (putF "_owners" w1 (putF "_form" (.str L.form) [])))) := by rw [h12]; exact upd_same
    have k112 : KeptAt H12 w1 L.o1 := k19.exI hb9 b12
    have k212 : KeptAt H12 w2 L.o2 := k2.exI (e10 _ _ hb9) (exb_upd (Ex.refl _) e11 h12)
    refine q_fldP (ep_mode (em_mode (a := a) (n := L.must) (num 4 L.must ok.must rfl) ok.must) hb12) (fun _ _ => ev_var rfl) hb12 T.c_Line T.n_must_Line (len3 _ _ _ _ _ _) fun v3 H13 H14 H15 e13 m1 e14 h15 => ?_
    obtain ⟨m1, rfl, nm1, mm1⟩ := m1
    have b15 := exb_upd e13 e14 h15
    have hb15 : H15 b = some (.ins a.f_Line dx (putF "_must" (.ref m1) (putF "_groups" w2 (putF "_owners" w1 (putF "_form" (.str L.form) []))))) := by rw [h15]; exact upd_same
    have k115 : KeptAt H15 w1 L.o1 := k112.exI hb12 b15
    have k215 : KeptAt H15 w2 L.o2 := k212.exI hb12 b15
    have m115 : ModeAt a H15 m1 L.must := mm1.exN nm1 (exb_upd (Ex.refl _) e14 h15)
    refine s_fldP (ep_mode (em_mode (a := a) (n := L.never) (num 5 L.never ok.never rfl) ok.never) hb15) (fun _ _ => ev_var rfl) hb15 T.c_Line T.n_never_Line (len4 _ _ _ _ _ _ _ _) fun v4 H16 H17 H18 e16 m2 e17 h18 => ?_
    obtain ⟨m2, rfl, nm2, mm2⟩ := m2
    have b18 := exb_upd e16 e17 h18
    exact k H18 ((ExB.of e05).trans (e6.trans (b9.trans (b12.trans (b15.trans b18))))) ⟨dx, w1, w2, m1, m2, by rw [h18]; exact upd_same, k115.exI hb15 b18, k215.exI hb15 b18, m115.exN nm1 b18, mm2.exN nm2 (exb_upd (Ex.refl _) e17 h18)⟩
theorem ok_letsN (T : Txt w K mg a) : FnOk P w K mg base CX0 1 a.f_Line_lets_names a.d_Line_lets_names ["self", "owner", "group"] (spLetsN a) := by
  refine T.fn_Line_lets_names.ok sc_Line_lets_names (fun vs H Q E h => ?_) (fun cdv A outer s H vs Q E hr h => ?_)
  · obtain ⟨_, _, _, _, rfl, _⟩ := h
    rfl
  · obtain ⟨b, L, o, g, rfl, ⟨dx, v1, v2, m1, m2, hb, k1, k2, _, _⟩, k⟩ := h
    refine ⟨_, (pss_cons (ps_set (i := 3) sc_Line_lets_names.nd rfl (Or.inl rfl) (pe_or (pe_cmpR op_isN (pe_fld (pv 0) rfl) pe_non (nomark _)) (pe_one (pe_cmpR op_in_seq (pv 1) (pe_fld (pv 0) rfl) (by rfl)))))
    (pss_one (ps_ret (pe_and (pv 3) (pe_one (pe_or (pe_cmpR op_isN (pe_fld (pv 0) rfl) pe_non (nomark _)) (pe_one (pe_cmpR op_in_seq (pv 2) (pe_fld (pv 0) rfl) (by rfl))))))))), ?_⟩
    refine q_asg (v := .bl (namesB L.o1 o)) (ev_own (K := K) (ev_var rfl) hb T.c_Line T.n_owners_Line (fs_owners _ _ _ _ _) k1 (ev_var rfl)) fun H1 e1 => ?_
    exact s_ret (v := .bl (namesB L.o1 o && namesB L.o2 g)) (ev_andV (ev_var rfl) fun _ => ev_own (K := K) (ev_var rfl) (e1 _ _ hb) T.c_Line T.n_groups_Line (fs_groups _ _ _ _ _) (k2.mono e1) (ev_var rfl)) fun H2 e2 => k H2 (e1.trans e2)
theorem ok_lets (T : Txt w K mg a) : FnOk P w K mg base CX0 6 a.f_Line_lets a.d_Line_lets ["self", "form", "mode", "owner", "group"] (spLets a) := by
  have G_number_of : FnOk P w K mg base CX0 5 _ _ _ _ := ok_number_of T
  have G_Line_lets_names : FnOk P w K mg base CX0 5 _ _ _ _ := (ok_letsN T).mono (by decide)
  have G_Mode_number : FnOk P w K mg base CX0 4 _ _ _ _ := (ok_Mode_number T).mono (by decide)
  refine T.fn_Line_lets.ok sc_Line_lets (fun vs H Q E h => ?_) (fun cdv A outer s H vs Q E hr h => ?_)
  · obtain ⟨_, _, _, _, _, _, _, rfl, _⟩ := h
    rfl
  · obtain ⟨b, L, f, o, g, v, n, rfl, mb, hn, hv, k⟩ := h
    have hrc : Room 5 _ := hr
    have hrm : Room (4 + 1) _ := hr
    refine ⟨_, (pss_cons (ps_set (i := 5) sc_Line_lets.nd rfl (Or.inl rfl) (pe_call G_number_of hrc rfl T.mg_number_of T.fn_number_of.kp (bd_number_of T) .nil pass0 (pa_cons (pv 2) pa_nil)))
    (pss_cons (ps_set (i := 6) sc_Line_lets.nd rfl (Or.inl rfl) (pe_prop (pe_fld (pv 0) rfl) T.c_Mode T.p_Mode_number (G_Mode_number) hrm (bd_Mode_number T) .nil pass0 rfl))
    (pss_cons (ps_if (PW.pt (pw_or (pt_cmpR op_ne (pv 1) (pe_fld (pv 0) rfl) (nomark _)) (pw_or1 (pt_not (pt_val (pe_meth (pv 0) T.c_Line T.m_Line_lets_names G_Line_lets_names hrc (bd_Line_lets_names T) .nil pass0 (pa_cons (pv 3) (pa_cons (pv 4) pa_nil)))))))) (pss_one (ps_ret pe_bl)) pss_nil)
    (pss_one (ps_ret (pe_and (pe_cmpR op_eq (pe_op op_and (pv 5) (pv 6)) (pv 6) (nomark _)) (pe_one (pe_cmpR op_eq (pe_op op_and (pv 5) (pe_prop (pe_fld (pv 0) rfl) T.c_Mode T.p_Mode_number (G_Mode_number) hrm (bd_Mode_number T) .nil pass0 rfl)) pe_int (nomark _))))))))), ?_⟩
    obtain ⟨dx, v1, v2, m1, m2, hb, k1, k2, ⟨dx1, h1⟩, ⟨dx2, h2⟩⟩ := id mb
    refine q_asg (v := .int (n : Nat)) (ev_call (vs := [v]) (ea_cons (ev_var rfl) ea_nil) fun H1 e Q q E => ⟨v, n, rfl, hn, hv.imp id fun ⟨p, z, m⟩ => ⟨p, z, m.mono e⟩, q⟩) fun H1 e1 => ?_
    refine q_asg (v := .int (L.must : Nat)) (ev_prop (ev_fld (ev_var rfl) (e1 _ _ hb) T.c_Line T.n_must_Line (fs_must _ _ _ _ _)) (e1 _ _ h1) (spv_get (e1 _ _ h1) (by simp [List.lookup]))) fun H2 e2 => ?_
    have e02 := e1.trans e2
    have lets : ∀ {σ : L2.St} {H3 : Hp} {E : XK}, Ex H H3 → σ[0]? = some (some (.ref b)) → σ[3]? = some (some (.str o)) → σ[4]? = some (some (.str g)) → Ev (tMeth a.f_Line "lets_names" (spLetsN a) [] E (tVar 0) (tCons (tVar 3) (tCons (tVar 4) tNil))) σ H3 (.bl (namesB L.o1 o && namesB L.o2 g)) := fun e3 s0 s3 s4 =>
      ev_meth (ev_var s0) (ea_cons (ev_var s3) (ea_cons (ev_var s4) ea_nil)) (e3 _ _ hb) (fs_no _ _ _ _ _).1 fun H4 e Q q E => ⟨b, L, o, g, rfl, mb.mono (e3.trans e), q⟩
    refine q_when (b := !(decide (f = L.form) && (namesB L.o1 o && namesB L.o2 g))) (et_is (et_or (a := !decide (f = L.form)) (b := !(namesB L.o1 o && namesB L.o2 g)) (et_is (et_test (ev_op (ev_var rfl) (ev_fld (ev_var rfl) (e02 _ _ hb) T.c_Line T.n_form_Line (fs_form _ _ _ _ _)) (rv_ne rfl))) (congrArg (!·) (decide_eq_decide.mpr ⟨fun z => by injection z, fun z => by rw [z]⟩))) fun _ => et_not (et_B (lets e02 rfl rfl rfl))) (by cases decide (f = L.form) <;> rfl)) (fun hb H3 e3 => ?_) (fun hb3 H3 e3 => ?_)
    · refine s_ret (v := .bl (letsB L f n o g)) (ev_is ev_c (congrArg V.bl ?_)) fun H4 e4 => k H4 ((e02.trans e3).trans e4)
      unfold letsB
      cases hx : (decide (f = L.form) && (namesB L.o1 o && namesB L.o2 g)) with
      | true => rw [hx] at hb; cases hb
      | false => rfl
    · have e03 := e02.trans e3
      refine s_ret (v := .bl (letsB L f n o g)) (ev_is (ev_andV (a := decide (V.int (Builtin.bitAnd (n : Int) (L.must : Int)) = V.int (L.must : Int))) (b := decide (V.int (Builtin.bitAnd (n : Int) (L.never : Int)) = V.int 0)) (ev_op (ev_op (ev_var rfl) (ev_var rfl) rv_I0) (ev_var rfl) (rv_eq rfl)) fun _ => ev_op (ev_op (ev_var rfl) (ev_prop (ev_fld (ev_var rfl) (e03 _ _ hb) T.c_Line T.n_never_Line (fs_never _ _ _ _ _)) (e03 _ _ h2) (spv_get (e03 _ _ h2) (by simp [List.lookup]))) rv_I0) ev_c (rv_eq rfl)) (congrArg V.bl ?_)) fun H4 e4 => k H4 (e03.trans e4)
      unfold letsB
      have ei : ∀ x y : Int, decide (V.int x = V.int y) = decide (x = y) := fun x y => decide_eq_decide.mpr ⟨fun z => by injection z, fun z => by rw [z]⟩
      rw [ei, ei]
      cases hx : (decide (f = L.form) && (namesB L.o1 o && namesB L.o2 g)) with
      | true => rfl
      | false => rw [hx] at hb3; cases hb3
theorem ok_pats (T : Txt w K mg a) : FnOk P w K mg base CX0 6 a.f_Line_patterns a.d_Line_patterns ["self", "letter"] (spPats a) := by
  have G_weight_of : FnOk P w K mg base CX0 5 _ _ _ _ := (ok_weight_of T).mono (by decide)
  have G_pattern_in : FnOk P w K mg base CX0 5 _ _ _ _ := (ok_pattern_in T.fn_pattern_in).mono (by decide)
  have G_Mode_number : FnOk P w K mg base CX0 4 _ _ _ _ := (ok_Mode_number T).mono (by decide)
  refine T.fn_Line_patterns.ok sc_Line_patterns (fun vs H Q E h => ?_) (fun cdv A outer s H vs Q E hr h => ?_)
  · obtain ⟨_, _, _, rfl, _⟩ := h
    rfl
  · obtain ⟨b, L, i, rfl, mb, ok, hi, k⟩ := h
    have hrc : Room 5 _ := hr
    have hrm : Room (4 + 1) _ := hr
    refine ⟨_, (pss_cons (ps_set (i := 2) sc_Line_patterns.nd rfl (Or.inl rfl) (pe_call G_weight_of hrc rfl T.mg_weight_of T.fn_weight_of.kp (bd_weight_of T) .nil pass0 (pa_cons (pv 1) pa_nil)))
    (pss_cons (ps_set (i := 3) sc_Line_patterns.nd rfl (Or.inr rfl) (pe_call G_pattern_in hrc rfl T.mg_pattern_in T.fn_pattern_in.kp (bd_pattern_in T) .nil pass0 (pa_cons (pe_prop (pe_fld (pv 0) rfl) T.c_Mode T.p_Mode_number (G_Mode_number) hrm (bd_Mode_number T) .nil pass0 rfl) (pa_cons (pv 2) pa_nil))))
    (pss_cons (ps_set (i := 4) sc_Line_patterns.nd rfl (Or.inr rfl) (pe_call G_pattern_in hrc rfl T.mg_pattern_in T.fn_pattern_in.kp (bd_pattern_in T) .nil pass0 (pa_cons (pe_prop (pe_fld (pv 0) rfl) T.c_Mode T.p_Mode_number (G_Mode_number) hrm (bd_Mode_number T) .nil pass0 rfl) (pa_cons (pv 2) pa_nil))))
    (pss_one (ps_ret (pe_lc (own := [("pattern", 5)]) (g := gName 5) rfl sc_Line_patterns.nd (pi_tup (pe_glob (v := .ref a.k_PATTERNS) rfl T.mg_PATTERNS rfl)) (blkOk_by (own := [("pattern", 5)]) (N := n_Line_patterns) (sc := defScope s_Line_patterns) (by decide +kernel)) (fun _ _ _ _ _ => (pg_name (i := 5) sc_Line_patterns.nd rfl (Or.inl rfl))) (fun _ _ _ _ _ => (pts_one (PW.pt (pw_and (pt_cmpR op_eq (pe_op op_and (pv 5) (pv 3)) (pv 3) (nomark _)) (pw_and1 (pt_cmpR op_eq (pe_op op_and (pv 5) (pv 4)) pe_int (nomark _))))))) (fun _ _ _ _ _ => (pv 5)))))))), ?_⟩
    obtain ⟨dx, v1, v2, m1, m2, hb, k1, k2, ⟨dx1, h1⟩, ⟨dx2, h2⟩⟩ := id mb
    refine q_asg (v := .int (wtN i : Nat)) (ev_call (vs := [.str (letS i)]) (ea_cons (ev_var rfl) ea_nil) fun H2 e Q q E => ⟨i, hi, rfl, q⟩) fun H1 e1 => ?_
    refine q_asg (v := .int (patN L.must (wtN i) : Nat)) (ev_call (vs := [.int (L.must : Nat), .int (wtN i : Nat)]) (ea_cons (ev_prop (ev_fld (ev_var rfl) (e1 _ _ hb) T.c_Line T.n_must_Line (fs_must _ _ _ _ _)) (e1 _ _ h1) (spv_get (e1 _ _ h1) (by simp [List.lookup]))) (ea_cons (ev_var rfl) ea_nil)) fun H2 e Q q E => ⟨L.must, wtN i, rfl, ok.must, wt_is i, q⟩) fun H2 e2 => ?_
    have e02 := e1.trans e2
    refine q_asg (v := .int (patN L.never (wtN i) : Nat)) (ev_call (vs := [.int (L.never : Nat), .int (wtN i : Nat)]) (ea_cons (ev_prop (ev_fld (ev_var rfl) (e02 _ _ hb) T.c_Line T.n_never_Line (fs_never _ _ _ _ _)) (e02 _ _ h2) (spv_get (e02 _ _ h2) (by simp [List.lookup]))) (ea_cons (ev_var rfl) ea_nil)) fun H2 e Q q E => ⟨L.never, wtN i, rfl, ok.never, wt_is i, q⟩) fun H3 e3 => ?_
    have ei : ∀ x y : Int, decide (V.int x = V.int y) = decide (x = y) := fun x y => decide_eq_decide.mpr ⟨fun z => by injection z, fun z => by rw [z]⟩
    have at_ : ∀ {j : Nat} {x : V}, ([0, 1, 2, 3, 4, 5, 6, 7].map V.int)[j]? = some x → x = .int (j : Nat) := fun {j x} h => by
      match j, h with
      | 0, h | 1, h | 2, h | 3, h | 4, h | 5, h | 6, h | 7, h => exact (Option.some.inj h).symm
    refine s_retL (el_is (el_lcT (K := K) (xs := [0, 1, 2, 3, 4, 5, 6, 7].map V.int) (σ' := fun x => [some (.ref b), some (.str (letS i)), some (.int (wtN i : Nat)), some (.int (patN L.must (wtN i) : Nat)), some (.int (patN L.never (wtN i) : Nat)), some x]) (patB L i) (fun p => .int (p : Nat)) ev_c (T.t_PATTERNS _) (by decide) (fun i x H1 Q e hx q => q) (fun x => rfl) (fun j x H4 e4 hx => ?_) (fun j x H4 e4 hx _ => ?_)) rfl) fun q H4 hq e4 h4 => k q H4 (fresh_back (e02.trans e3) hq) ((e02.trans e3).trans e4) h4
    · rw [at_ hx]
      refine et_is (et_and (a := decide (V.int (Builtin.bitAnd (j : Int) (patN L.must (wtN i) : Nat)) = V.int (patN L.must (wtN i) : Nat))) (b := decide (V.int (Builtin.bitAnd (j : Int) (patN L.never (wtN i) : Nat)) = V.int 0)) (et_test (ev_op (ev_op (ev_var rfl) (ev_var rfl) rv_I0) (ev_var rfl) (rv_eq rfl))) fun _ => et_test (ev_op (ev_op (ev_var rfl) (ev_var rfl) rv_I0) ev_c (rv_eq rfl))) ?_
      unfold patB
      rw [ei, ei]
    · rw [at_ hx]
      exact ev_var rfl
end
end KG
set_option Elab.async false
set_option linter.all false
set_option maxRecDepth 100000
set_option maxHeartbeats 4000000
namespace KG
open PySem PySem.Spec PyProof.Rows L2 Evl KF
local macro_rules | `(tactic| walk_at "ev") => `(tactic| repeat' (first | exact ev_c | exact ev_var rfl | exact rv_I0 | refine' rv_I ?_ | refine' rv_eq ?_ | refine' rv_ne ?_ | refine' ev_op ?_ ?_ ?_ | exact ea_nil | refine' ea_cons ?_ ?_ | refine' et_test ?_ | refine' et_B ?_ | refine' et_not ?_ | refine' ev_notV ?_))

open PySem
/-! ### the pen: a list of a list of ints, how far it is, what rests -/
def PenAt (H : Hp) (p : Addr) (n : Nat) : Prop := ∃ (l : Addr) (ns : List Int) (at_ : Nat) (rest : Int), H p = some (.lst [.ref l, .int at_, .int rest]) ∧ H l = some (.lst (ns.map V.int)) ∧ l ≠ p ∧ at_ ≤ n ∧ 0 ≤ rest ∧ ns.length ≤ 63
theorem PenAt.keep {H H' : Hp} {p : Addr} {n : Nat} (h : PenAt H p n) (e : Ex H H') : PenAt H' p n := by
  obtain ⟨l, ns, at_, rest, h1, h2, h3, h4, h5, h6⟩ := h
  exact ⟨l, ns, at_, rest, e _ _ h1, e _ _ h2, h3, h4, h5, h6⟩
theorem PenAt.ex {H : Hp} {p : Addr} {n : Nat} (h : PenAt H p n) : ∃ o, H p = some o := by
  obtain ⟨l, ns, at_, rest, h1, _⟩ := h
  exact ⟨_, h1⟩
/-- all but p stay, and p's first item does -/
structure ExP (p : Addr) (H H' : Hp) : Prop where
  ex : ExB p H H'
  fix : ∀ l x y, H p = some (.lst [.ref l, x, y]) → ∃ x' y', H' p = some (.lst [.ref l, x', y'])
theorem ExP.trans {p : Addr} {H H1 H2 : Hp} (a : ExP p H H1) (b : ExP p H1 H2) : ExP p H H2 := ⟨a.ex.trans b.ex, fun l x y h => by
  obtain ⟨x1, y1, h1⟩ := a.fix l x y h
  exact b.fix l x1 y1 h1⟩
theorem ExP.of {p : Addr} {H H' : Hp} (e : Ex H H') : ExP p H H' := ⟨ExB.of e, fun l x y h => ⟨x, y, e _ _ h⟩⟩
def spPen (K : PySem.W.Frag) : Sp := fun vs H Q _ => ∃ (s : Addr) (ns : List Int), vs = [.ref s] ∧ SqL K H s (ns.map V.int) ∧ ns.length ≤ 63 ∧ ∀ p H', H p = none → Ex H H' → PenAt H' p 0 → Q (.ref p) H'
/-- a limit of draws -/
def LimM (m : Nat) : Prop := ((m : Nat) : Int).natAbs < 2 ^ 200
def spDraw : Sp := fun vs H Q _ => ∃ (p : Addr) (n m : Nat), vs = [.ref p, .int m] ∧ PenAt H p n ∧ n < 100000 ∧ 0 < m ∧ LimM m ∧ ∀ (d : Nat) H', d < m → ExP p H H' → PenAt H' p (n + 1) → Q (.int d) H'
def spPick : Sp := fun vs H Q _ => ∃ (p : Addr) (v : V) (n : Nat), vs = [.ref p, v] ∧ PenAt H p n ∧ n < 100000 ∧
  ((∃ (s : Addr) (xs : List V), v = .ref s ∧ H s = some (.lst xs) ∧ s ≠ p ∧ 0 < xs.length ∧ xs.length ≤ 1000 ∧ ∀ x H', x ∈ xs → ExP p H H' → PenAt H' p (n + 1) → Q x H') ∨
   (∃ z : Str, v = .str z ∧ 0 < z.length ∧ z.length ≤ 1000 ∧ ∀ c H', c ∈ z.cps.toList → ExP p H H' → PenAt H' p (n + 1) → Q (.str ⟨#[c]⟩) H'))
theorem lim_small {m : Nat} (h : m ≤ 1000) : LimM m := by
  unfold LimM
  rw [Int.natAbs_natCast]
  exact Nat.lt_of_le_of_lt h (by decide)
section
variable {P : Program} {w : World} {K : PySem.W.Frag} {mg : Str → Option Value} {base : Heap} {a : Ads}
theorem ok_pen (T : Txt w K mg a) : FnOk P w K mg base CX0 1 a.f__law_pen a.d__law_pen ["_law_script"] (spPen K) := by
  refine T.fn__law_pen.ok sc__law_pen (fun vs H Q E h => ?_) (fun cdv A outer s H vs Q E hr h => ?_)
  · obtain ⟨_, _, rfl, _⟩ := h
    rfl
  · obtain ⟨sc, ns, rfl, hs, hl, k⟩ := h
    refine ⟨_, (pss_one (ps_ret (pe_lst (pa_cons (pe_callTy call_list_of (by rfl) T.b_list (by decide +kernel) (pa_cons (pe_slice sl_list (pv 0) po_none (po_some pe_int)) pa_nil)) (pa_cons pe_int (pa_cons pe_int pa_nil)))))), ?_⟩
    obtain ⟨ms, e, hm⟩ := cut_ints ns none (some 63)
    refine s_retPen (el_is (el_listN (K := K) (el_sliceL (K := K) (ev_var rfl) eo_none (eo_some ev_c) hs)) e) fun l p H1 hl1 e1 h1 hp => ?_
    have lp : l ≠ p := fun z => by rw [z, hp] at h1; cases h1
    exact k p _ (fresh_back e1 hp) (e1.trans (Ex.new hp)) ⟨l, ms, 0, 0, upd_same, by rw [upd_ne lp]; exact h1, lp, Nat.le_refl 0, Int.le_refl 0, by omega⟩
theorem ok_draw (T : Txt w K mg a) : FnOk P w K mg base CX0 1 a.f__law_draw a.d__law_draw ["_law_pen_here", "_law_many"] spDraw := by
  refine T.fn__law_draw.ok sc__law_draw (fun vs H Q E h => ?_) (fun cdv A outer s H vs Q E hr h => ?_)
  · obtain ⟨_, _, _, rfl, _⟩ := h
    rfl
  · obtain ⟨p, n, m, rfl, ⟨l, ns, at_, rest, hp, hl, lp, hat, hrest, hlen⟩, hn, hm0, hm, k⟩ := h
    refine ⟨_, (pss_cons (ps_if (pt_cmpR op_gt (pe_ix ix_list (pv 0) pe_int (fun _ _ => rfl)) pe_int (nomark _)) (pss_cons (ps_set (i := 2) sc__law_draw.nd rfl (Or.inl rfl) (pe_op op_mod (pe_callTy call_int1 (by rfl) T.b_int (by decide +kernel) (pa_cons (pe_ix ix_list (pv 0) pe_int (fun _ _ => rfl)) pa_nil)) (pv 1)))
    (pss_cons (ps_asg (pe_op op_fdivW (pe_callTy call_int1 (by rfl) T.b_int (by decide +kernel) (pa_cons (pe_ix ix_list (pv 0) pe_int (fun _ _ => rfl)) pa_nil)) (pv 1)) (pg_sub (pv 0) pe_int set_list))
    (pss_one (ps_ret (pv 2))))) pss_nil)
    (pss_cons (ps_set (i := 3) sc__law_draw.nd rfl (Or.inl rfl) (pe_ix ix_list (pv 0) pe_int (fun _ _ => rfl)))
    (pss_cons (ps_asg (pe_op op_add (pv 3) pe_int) (pg_sub (pv 0) pe_int set_list))
    (pss_cons (ps_set (i := 4) sc__law_draw.nd rfl (Or.inl rfl) (pe_op op_add (pe_op op_mul pe_int (pv 3)) pe_int))
    (pss_cons (ps_if (pt_cmpR (op_neD hr.units) (pe_ix ix_list (pv 0) pe_int (fun _ _ => rfl)) (pe_lst pa_nil) (nomark _)) (pss_one (ps_set (i := 4) sc__law_draw.nd rfl (Or.inl rfl) (pe_ix ix_list (pe_ix ix_list (pv 0) pe_int (fun _ _ => rfl)) (pe_op op_mod (pe_callTy call_int1 (by rfl) T.b_int (by decide +kernel) (pa_cons (pv 3) pa_nil)) (pe_callB call_len_seq (by rfl) T.b_len PySem.boot_len (pa_cons (pe_ix ix_list (pv 0) pe_int (fun _ _ => rfl)) pa_nil))) (fun _ _ => rfl)))) pss_nil)
    (pss_cons (ps_if (PW.pt (pw_and (pt_cmpR op_lt (pv 3) (pe_callB call_len_seq (by rfl) T.b_len PySem.boot_len (pa_cons (pe_ix ix_list (pv 0) pe_int (fun _ _ => rfl)) pa_nil)) (nomark _)) (pw_and1 (pt_cmpR op_ge (pe_callB call_abs (by rfl) T.b_abs (by decide +kernel) (pa_cons (pv 4) pa_nil)) (pe_op op_pow pe_int pe_int) (nomark _))))) (pss_cons (ps_set (i := 5) sc__law_draw.nd rfl (Or.inl rfl) (pe_op op_add (pe_op op_mul pe_int (pe_op op_sub (pe_callB call_abs (by rfl) T.b_abs (by decide +kernel) (pa_cons (pv 4) pa_nil)) (pe_op op_pow pe_int pe_int))) (pe_callTy call_int1 (by rfl) T.b_int (by decide +kernel) (pa_cons (pe_cmpR op_lt (pv 4) pe_int (nomark _)) pa_nil))))
    (pss_cons (ps_asg (pe_op op_fdivW (pe_callTy call_int1 (by rfl) T.b_int (by decide +kernel) (pa_cons (pv 5) pa_nil)) (pv 1)) (pg_sub (pv 0) pe_int set_list))
    (pss_one (ps_ret (pe_op op_mod (pe_callTy call_int1 (by rfl) T.b_int (by decide +kernel) (pa_cons (pv 5) pa_nil)) (pv 1)))))) pss_nil)
    (pss_cons (ps_set (i := 6) sc__law_draw.nd rfl (Or.inl rfl) (pe_op op_mod (pe_callTy call_int1 (by rfl) T.b_int (by decide +kernel) (pa_cons (pe_op op_pow (pe_op op_add (pe_op op_add (pe_op op_mod (pe_callTy call_int1 (by rfl) T.b_int (by decide +kernel) (pa_cons (pv 4) pa_nil)) pe_int) (pe_op op_mul pe_int (pv 3))) pe_int) pe_int) pa_nil)) pe_int))
    (pss_cons (ps_set (i := 6) sc__law_draw.nd rfl (Or.inl rfl) (pe_op op_mod (pe_callTy call_int1 (by rfl) T.b_int (by decide +kernel) (pa_cons (pe_op op_pow (pe_op op_add (pe_op op_add (pe_op op_mul (pv 6) (pe_op op_add (pe_op op_mul pe_int (pv 3)) pe_int)) (pe_op op_mul (pe_op op_mul pe_int (pv 3)) (pv 3))) pe_int) pe_int) pa_nil)) pe_int))
    (pss_one (ps_ret (pe_op op_mod (pe_callTy call_int1 (by rfl) T.b_int (by decide +kernel) (pa_cons (pe_op op_fdiv (pv 6) pe_int) pa_nil)) (pv 1)))))))))))), ?_⟩
    have fin : ∀ (H1 H4 : Hp) (x r : Int) (b : Nat), ExB p H H1 → b ≤ n + 1 → 0 ≤ r → Ex (upd H1 p (.lst [.ref l, .int b, .int r])) H4 → 0 ≤ x → x < m → Q (.int x) H4 := fun H1 H4 x r b e1 hb hr0 e4 h0 h1 => by
      have ex : x = (x.toNat : Nat) := by omega
      rw [ex]
      refine k x.toNat _ (by omega) ⟨fun c o hc ne => e4 _ _ (by rw [upd_ne ne]; exact e1 _ _ hc ne), fun l' x' y' q => by
        rw [hp] at q
        cases q
        exact ⟨_, _, e4 _ _ upd_same⟩⟩ ⟨l, ns, b, r, e4 _ _ upd_same, e4 _ _ (by rw [upd_ne lp]; exact e1 _ _ hl lp), lp, hb, hr0, hlen⟩
    have hm1 : (0 : Int) < (m : Int) := by omega
    -- if pen[2] > 0
    refine q_when (b := decide (0 < rest)) (et_test (ev_op (ev_op (ev_var rfl) ev_c (rv_ixL (sq_of hp) rfl)) ev_c rv_I0)) (fun hb H1 e1 => ?_) (fun hb H1 e1 => ?_)
    · have hp1 := e1 _ _ hp
      refine q_asg (v := .int (rest % m)) (ev_op (ev_int (ev_op (ev_var rfl) ev_c (rv_ixL (sq_of hp1) rfl))) (ev_var rfl) (rv_I (by omega))) fun H2 e2 => ?_
      have hp2 := e2 _ _ hp1
      refine q_setL (j := 2) hp2 (v := .int (rest / m)) (ev_op (ev_int (ev_op (ev_var rfl) ev_c (rv_ixL (sq_of hp2) rfl))) (ev_var rfl) (rv_I (wide_div (b := 200) hm1 hm (by decide) (by decide)))) (ev_var rfl) ev_c (by show 2 < 3; decide) fun H3 e3 => ?_
      refine s_ret (v := .int (rest % m)) (ev_var rfl) fun H4 e4 => ?_
      exact fin H3 H4 _ _ _ (ExB.of ((e1.trans e2).trans e3)) (Nat.le_succ_of_le hat) (Int.ediv_nonneg hrest (by omega)) e4 (Int.emod_nonneg _ (by omega)) (Int.emod_lt_of_pos _ hm1)
    · have hr0 : rest = 0 := by have := of_decide_eq_false hb; omega
      have hp1 := e1 _ _ hp
      refine q_asg (v := .int at_) (ev_op (ev_var rfl) ev_c (rv_ixL (sq_of hp1) rfl)) fun H2 e2 => ?_
      have hp2 := e2 _ _ hp1
      refine q_setL (j := 1) hp2 (v := .int (at_ + 1)) (by walk_at "ev") (ev_var rfl) ev_c (by show 1 < 3; decide) fun H3 e3 => ?_
      have e03 : Ex H H3 := (e1.trans e2).trans e3
      have hp3 : (upd H3 p (.lst [.ref l, .int (at_ + 1), .int rest])) p = some (.lst [.ref l, .int (at_ + 1), .int rest]) := upd_same
      have hl3 : (upd H3 p (.lst [.ref l, .int (at_ + 1), .int rest])) l = some (.lst (ns.map V.int)) := by rw [upd_ne lp]; exact e03 _ _ hl
      have b03 : ExB p H (upd H3 p (.lst [.ref l, .int (at_ + 1), .int rest])) := fun c o hc ne => by rw [upd_ne ne]; exact e03 _ _ hc
      generalize eK : (upd H3 p (.lst [.ref l, .int (at_ + 1), .int rest])) = K3 at hp3 hl3 b03
      show tSeq _ _ _ _ (upd H3 p (.lst [.ref l, .int (at_ + 1), .int rest]))
      rw [eK]
      -- cell
      refine q_asg (v := .int (50423 * at_ + 409)) (by walk_at "ev"; exact .inl ⟨by decide, by decide⟩) fun H4 e4 => ?_
      have hp4 := e4 _ _ hp3
      have hl4 := e4 _ _ hl3
      obtain ⟨cell, hc1, hc2⟩ : ∃ cell : Int, (ns ≠ [] → atI (ns.map V.int) ((at_ : Int) % ((ns.map V.int).length : Nat)) = some (.int cell)) ∧ (ns = [] → cell = 50423 * at_ + 409) := by
        by_cases hns : ns = []
        · exact ⟨50423 * at_ + 409, fun z => absurd hns z, fun _ => rfl⟩
        · have hpos : 0 < ns.length := List.length_pos_iff.mpr hns
          have hj : at_ % ns.length < ns.length := Nat.mod_lt _ hpos
          refine ⟨ns[at_ % ns.length], fun _ => ?_, fun z => absurd z hns⟩
          rw [List.length_map, show ((at_ : Int) % (ns.length : Nat)) = ((at_ % ns.length : Nat) : Int) by omega]
          exact atI_nat (by simp [hj])
      have hlenZ : ns ≠ [] → (0 : Int) < ((ns.map V.int).length : Nat) := fun hns => by
        have hpos : 0 < ns.length := List.length_pos_iff.mpr hns
        rw [List.length_map]; omega
      refine q_ifAsg (b := !PyData.eqv (.list (ns.map PyData.int)) (.list [])) (v := .int cell) (et_test (ev_opL (ev_op (ev_var rfl) ev_c (rv_ixL (sq_of hp4) rfl)) (el_lst ea_nil (by decide)) fun q H5 hq e5 => rv_neE (e5 _ _ hl4) hq)) (fun hb => ?_) (fun hb => ?_) fun H5 e5 => ?_
      · have hns : ns ≠ [] := fun z => by rw [eqv_nil, z] at hb; cases hb
        refine ev_op (ev_op (ev_var rfl) ev_c (rv_ixL (sq_of hp4) rfl)) (ev_op (ev_int (ev_var rfl)) (ev_lenS (ev_op (ev_var rfl) ev_c (rv_ixL (sq_of hp4) rfl)) (sq_of hl4)) (rv_I (hlenZ hns))) (rv_ixL (sq_of hl4) (hc1 hns))
      · have hns : ns = [] := by
          rw [eqv_nil] at hb
          simpa using hb
        rw [hc2 hns]
        rfl
      have hp5 := e5 _ _ hp4
      have hl5 := e5 _ _ hl4
      -- if at < len(pen[0]) and abs(cell) >= 10 ** 18
      refine q_when (b := decide ((at_ : Int) < ((ns.map V.int).length : Nat)) && decide ((10 : Int) ^ (18 : Int).toNat ≤ (if cell < 0 then -cell else cell))) (et_and (et_test (ev_op (ev_var rfl) (ev_lenS (ev_op (ev_var rfl) ev_c (rv_ixL (sq_of hp5) rfl)) (sq_of hl5)) rv_I0)) fun _ => et_test (ev_op (ev_abs (ev_var rfl)) (ev_op ev_c ev_c (rv_I ⟨by decide, by decide, by decide⟩)) rv_I0)) (fun hb H6 e6 => ?_) (fun hb H6 e6 => ?_)
      · have hge := of_decide_eq_true (Bool.and_eq_true_iff.mp hb).2
        have hp6 := e6 _ _ hp5
        refine q_asg (v := .int (2 * ((if cell < 0 then -cell else cell) - 10 ^ (18 : Int).toNat) + (if decide (cell < 0) = true then 1 else 0))) (ev_op (ev_op ev_c (ev_op (ev_abs (ev_var rfl)) (ev_op ev_c ev_c (rv_I ⟨by decide, by decide, by decide⟩)) rv_I0) (rv_I (.inl ⟨by decide, by decide⟩))) (ev_intB (ev_op (ev_var rfl) ev_c rv_I0)) rv_I0) fun H7 e7 => ?_
        have hg0 : 0 ≤ 2 * ((if cell < 0 then -cell else cell) - 10 ^ (18 : Int).toNat) + (if decide (cell < 0) = true then 1 else 0) := by
          have : (0 : Int) ≤ (if decide (cell < 0) = true then 1 else 0) := by split <;> decide
          omega
        generalize 2 * ((if cell < 0 then -cell else cell) - 10 ^ (18 : Int).toNat) + (if decide (cell < 0) = true then 1 else 0) = great at hg0
        refine q_setL (j := 2) (e7 _ _ hp6) (v := .int (great / m)) (ev_op (ev_int (ev_var rfl)) (ev_var rfl) (rv_I (wide_div (b := 200) hm1 hm (by decide) (by decide)))) (ev_var rfl) ev_c (by show 2 < 3; decide) fun H8 e8 => ?_
        refine s_ret (v := .int (great % m)) (ev_op (ev_int (ev_var rfl)) (ev_var rfl) (rv_I hm1)) fun H9 e9 => ?_
        exact fin H8 H9 _ (great / m) (at_ + 1) (b03.trans (ExB.of ((((e4.trans e5).trans e6).trans e7).trans e8))) (by omega) (Int.ediv_nonneg hg0 (by omega)) e9 (Int.emod_nonneg _ (by omega)) (Int.emod_lt_of_pos _ hm1)
      · have hat5 : (at_ : Int) ≤ 100000 := by omega
        have hu0 : 0 ≤ cell % 2147483549 + 60457 * at_ + 409 ∧ cell % 2147483549 + 60457 * at_ + 409 < 18446744073709551616 := by
          have h1 := Int.emod_nonneg cell (show (2147483549 : Int) ≠ 0 by decide)
          have h2 := Int.emod_lt_of_pos cell (show (0 : Int) < 2147483549 by decide)
          omega
        refine q_asg (v := .int ((cell % 2147483549 + 60457 * at_ + 409) ^ (5 : Int).toNat % 2147483629)) (ev_op (ev_int (ev_op (ev_op (ev_op (ev_op (ev_int (ev_var rfl)) ev_c (rv_I (by decide))) (ev_op ev_c (ev_var rfl) (rv_I (.inl ⟨by decide, by decide⟩))) rv_I0) ev_c rv_I0) ev_c (rv_I ⟨by decide, by decide, by omega⟩))) ev_c (rv_I (by decide))) fun H7 e7 => ?_
        have hx0 := Int.emod_nonneg ((cell % 2147483549 + 60457 * at_ + 409) ^ (5 : Int).toNat) (show (2147483629 : Int) ≠ 0 by decide)
        have hx1 := Int.emod_lt_of_pos ((cell % 2147483549 + 60457 * at_ + 409) ^ (5 : Int).toNat) (show (0 : Int) < 2147483629 by decide)
        generalize (cell % 2147483549 + 60457 * at_ + 409) ^ (5 : Int).toNat % 2147483629 = mx at hx0 hx1
        obtain ⟨b1, b2⟩ := mul_bd hx0 (Int.le_of_lt hx1) (y := 2 * at_ + 71) (B := 300000) (by omega) (by omega)
        obtain ⟨b3, b4⟩ := mul_bd (x := 70439 * at_) (A := 8000000000) (y := at_) (B := 100000) (by omega) (by omega) (by omega) hat5
        refine q_asg (v := .int ((mx * (2 * at_ + 71) + 70439 * at_ * at_ + 17) ^ (3 : Int).toNat % 2147483587)) (ev_op (ev_int (ev_op (ev_op (ev_op (ev_op (ev_var rfl) (ev_op (ev_op ev_c (ev_var rfl) (rv_I (.inl ⟨by decide, by decide⟩))) ev_c rv_I0) (rv_I (.inl ⟨by omega, by omega⟩))) (ev_op (ev_op ev_c (ev_var rfl) (rv_I (.inl ⟨by decide, by decide⟩))) (ev_var rfl) (rv_I (.inl ⟨by omega, by omega⟩))) rv_I0) ev_c rv_I0) ev_c (rv_I ⟨by decide, by decide, by omega⟩))) ev_c (rv_I (by decide))) fun H8 e8 => ?_
        refine s_ret (v := .int (((mx * (2 * at_ + 71) + 70439 * at_ * at_ + 17) ^ (3 : Int).toNat % 2147483587) / 32 % m)) (ev_op (ev_int (ev_op (ev_var rfl) ev_c (rv_I ⟨by decide, by decide⟩))) (ev_var rfl) (rv_I hm1)) fun H9 e9 => ?_
        refine fin H3 H9 _ rest (at_ + 1) (ExB.of e03) (by omega) hrest ?_ (Int.emod_nonneg _ (by omega)) (Int.emod_lt_of_pos _ hm1)
        intro c o hc
        exact e9 _ _ (e8 _ _ (e7 _ _ (e6 _ _ (e5 _ _ (e4 _ _ (by rw [← eK]; exact hc))))))
theorem ok_pick (T : Txt w K mg a) : FnOk P w K mg base CX0 2 a.f__law_pick a.d__law_pick ["_law_pen_here", "_law_some"] spPick := by
  have G__law_draw : FnOk P w K mg base CX0 1 _ _ _ _ := ok_draw T
  refine T.fn__law_pick.ok sc__law_pick (fun vs H Q E h => ?_) (fun cdv A outer s H vs Q E hr h => ?_)
  · obtain ⟨_, _, _, rfl, _⟩ := h
    rfl
  · obtain ⟨p, v, n, rfl, hp, hn, h⟩ := h
    have hrc : Room 1 _ := hr
    refine ⟨_, (pss_one (ps_ret (pe_ix ix_seq (pv 1) (pe_call G__law_draw hrc rfl T.mg__law_draw T.fn__law_draw.kp (bd__law_draw T) .nil pass0 (pa_cons (pv 0) (pa_cons (pe_callB call_len (by rfl) T.b_len PySem.boot_len (pa_cons (pv 1) pa_nil)) pa_nil))) (fun _ _ => rfl)))), ?_⟩
    rcases h with ⟨s, xs, rfl, hs, sp, h0, h1, k⟩ | ⟨z, rfl, h0, h1, k⟩
    · refine ⟨.ref s, rfl, .ref p, rfl, .ref s, rfl, .ref s, xs.length, rfl, .inl ⟨xs, sq_of hs, rfl⟩, p, n, xs.length, rfl, hp, hn, h0, lim_small h1, fun d H1 hd e1 hp1 => ?_⟩
      exact .inl ⟨s, xs, d, xs[d], rfl, rfl, sq_of (e1.ex _ _ hs sp), atI_nat (by simp [hd]), k _ _ (List.getElem_mem hd) e1 hp1⟩
    · have hz : z.length ≤ sizeLine := sz_of (by omega)
      have hl : z.cps.toList.length = z.length := Array.length_toList
      refine ⟨.str z, rfl, .ref p, rfl, .str z, rfl, .str z, z.length, rfl, ⟨hz, rfl⟩, p, n, z.length, rfl, hp, hn, h0, lim_small h1, fun d H1 hd e1 hp1 => ?_⟩
      have hd2 : d < z.cps.toList.length := by omega
      exact .inr (.inr ⟨z, d, z.cps.toList[d], rfl, rfl, hz, atI_nat (by simp [hd2]), k _ _ (List.getElem_mem hd2) e1 hp1⟩)
end
/-- the pen, its cells at l -/
def PenL (H : Hp) (p l : Addr) (n : Nat) : Prop := ∃ (ns : List Int) (at_ : Nat) (rest : Int), H p = some (.lst [.ref l, .int at_, .int rest]) ∧ H l = some (.lst (ns.map V.int)) ∧ l ≠ p ∧ at_ ≤ n ∧ 0 ≤ rest ∧ ns.length ≤ 63
section
variable {H H' : Hp} {p l d : Addr} {n m : Nat}
theorem PenL.pen (h : PenL H p l n) : PenAt H p n := let ⟨ns, a, r, q⟩ := h; ⟨l, ns, a, r, q⟩
theorem PenAt.fixL (h : PenAt H p n) : ∃ l, PenL H p l n := let ⟨l, ns, a, r, q⟩ := h; ⟨l, ns, a, r, q⟩
theorem PenL.keep (h : PenL H p l n) (e : Ex H H') : PenL H' p l n := let ⟨ns, a, r, h1, h2, q⟩ := h; ⟨ns, a, r, e _ _ h1, e _ _ h2, q⟩
theorem PenL.upd {o : HO} (h : PenL H p l n) (n1 : p ≠ d) (n2 : l ≠ d) : PenL (upd H d o) p l n := let ⟨ns, a, r, h1, h2, q⟩ := h; ⟨ns, a, r, by rw [upd_ne n1]; exact h1, by rw [upd_ne n2]; exact h2, q⟩
theorem PenL.ne (h : PenL H p l n) (z : H d = none) : p ≠ d ∧ l ≠ d := let ⟨_, _, _, h1, h2, _⟩ := h; ⟨ne_of_none h1 z, ne_of_none h2 z⟩
theorem PenL.next (h : PenL H p l n) (b : PenAt H' p m) (c : ExP p H H') : PenL H' p l m := by
  obtain ⟨ns, a, r, h1, _⟩ := h
  obtain ⟨x', y', e⟩ := c.fix l _ _ h1
  obtain ⟨l2, ns2, a2, r2, f1, q⟩ := b
  rw [f1] at e
  cases e
  exact ⟨ns2, a2, r2, f1, q⟩
theorem PenL.more (h : PenL H p l n) (k : n ≤ m) : PenL H p l m := let ⟨ns, a, r, h1, h2, h3, h4, h5⟩ := h; ⟨ns, a, r, h1, h2, h3, Nat.le_trans h4 k, h5⟩
theorem PenAt.ne_tup (h : PenAt H p n) {q : Addr} {xs : List V} (hq : H q = some (.tup xs)) : q ≠ p := let ⟨_, _, _, _, h1, _⟩ := h; ne_of hq h1 fun z => nomatch z
theorem PenAt.ne_new (h : PenAt H p n) {q : Addr} (hq : H q = none) : q ≠ p := let ⟨_, _, _, _, h1, _⟩ := h; (ne_of_none h1 hq).symm
end

theorem PenAt.more {H : Hp} {p : Addr} {n m : Nat} (h : PenAt H p n) (k : n ≤ m) : PenAt H p m := let ⟨l, ns, a, r, h1, h2, h3, h4, h5⟩ := h; ⟨l, ns, a, r, h1, h2, h3, Nat.le_trans h4 k, h5⟩
section
variable {K : PySem.W.Frag} {σ : L2.St} {H : Hp} {t1 t2 ta tb te : TE} {D : Ends} {tz : TS} {i j n : Nat} {p lc : Addr} {E : XK} {Q : VK} {x : V} {r : R2}
theorem draw_r (m : Nat) (hi : σ[i]? = some (some (.ref p))) (hm : Ev te σ H (.int (m : Nat))) (pen : PenL H p lc n) (hn : n < 100000) (h0 : 0 < m) (hl : m ≤ 1000) (k : ∀ d H', d < m → ExP p H H' → PenL H' p lc (n + 1) → Q (.int (d : Nat)) H') : tCall spDraw [] E (tCons (tVar i) (tCons te tNil)) σ H Q :=
  ⟨.ref p, hi, hm H (Ex.refl H) _ fun H1 e1 => ⟨p, n, m, rfl, (pen.keep e1).pen, hn, h0, lim_small hl, fun d H' hd e b => k d H' hd ((ExP.of e1).trans e) ((pen.keep e1).next b e)⟩⟩
theorem pick_raw (hi : σ[i]? = some (some (.ref p))) (h : te σ H fun v H1 => spPick [.ref p, v] H1 Q E) : tCall spPick [] E (tCons (tVar i) (tCons te tNil)) σ H Q := ⟨.ref p, hi, h⟩
/-- a pick out of a list -/
theorem pk_list {s : Addr} {xs : List V} (pen : PenL H p lc n) (hn : n < 100000) (hs : H s = some (.lst xs)) (sp : s ≠ p) (h0 : 0 < xs.length) (h1 : xs.length ≤ 1000) (k : ∀ x H', x ∈ xs → ExP p H H' → PenL H' p lc (n + 1) → Q x H') : spPick [.ref p, .ref s] H Q E :=
  ⟨p, _, n, rfl, pen.pen, hn, .inl ⟨s, xs, rfl, hs, sp, h0, h1, fun x H' hx e b => k x H' hx e (pen.next b e)⟩⟩
theorem pk_str {z : Str} (pen : PenL H p lc n) (hn : n < 100000) (h0 : 0 < z.length) (h1 : z.length ≤ 1000) (k : ∀ c H', c ∈ z.cps.toList → ExP p H H' → PenL H' p lc (n + 1) → Q (.str ⟨#[c]⟩) H') : spPick [.ref p, .str z] H Q E :=
  ⟨p, _, n, rfl, pen.pen, hn, .inr ⟨z, rfl, h0, h1, fun x H' hx e b => k x H' hx e (pen.next b e)⟩⟩
theorem ev_raw (h : Ev te σ H x) (k : ∀ H1, Ex H H1 → Q x H1) : te σ H Q := h H (Ex.refl H) Q k
theorem el_raw {xs : List V} (h : EvL te σ H xs) (k : ∀ l H1, H l = none → Ex H H1 → H1 l = some (.lst xs) → Q (.ref l) H1) : te σ H Q := h H (Ex.refl H) Q k
theorem PenL.neL {l : Addr} {xs : List V} (pen : PenL H p lc n) (hl : H l = some (.lst xs)) (ne : ∀ u v w, xs ≠ [u, v, w] ∨ (∀ q, u ≠ .ref q)) : l ≠ p := by
  obtain ⟨ns, at_, rest, h1, _⟩ := pen
  intro z
  rw [z, h1] at hl
  have e := Option.some.inj hl
  injection e with e
  rcases ne (.ref lc) (.int at_) (.int rest) with h | h
  · exact h e.symm
  · exact h lc rfl
end
/-- append, the new item raw -/
theorem s_app1 {K : PySem.W.Frag} {σ : L2.St} {H : Hp} {te : TE} {D : Ends} {j : Nat} {l : Addr} {ys : List V} (hj : σ[j]? = some (some (.ref l))) (hl : H l = some (.lst ys)) (h : te σ H fun v H2 => ∃ l' xs y, V.ref l = .ref l' ∧ [v] = [y] ∧ H2 l' = some (.lst xs) ∧ xs.length < sizeLine ∧ D.nx σ (upd H2 l' (.lst (xs ++ [y])))) : tDrop (tBM K "list" rAppend (tVar j) (tCons te tNil)) D σ H :=
  ⟨.ref l, hj, Or.inl ⟨rfl, ys, sq_of hl⟩, h⟩
theorem q_app1 {K : PySem.W.Frag} {σ : L2.St} {H : Hp} {te : TE} {D : Ends} {tz : TS} {j : Nat} {l : Addr} {ys : List V} (hj : σ[j]? = some (some (.ref l))) (hl : H l = some (.lst ys)) (h : te σ H fun v H2 => ∃ l' xs y, V.ref l = .ref l' ∧ [v] = [y] ∧ H2 l' = some (.lst xs) ∧ xs.length < sizeLine ∧ tz D σ (upd H2 l' (.lst (xs ++ [y])))) : tSeq (tDrop (tBM K "list" rAppend (tVar j) (tCons te tNil))) tz D σ H :=
  ⟨.ref l, hj, Or.inl ⟨rfl, ys, sq_of hl⟩, h⟩
theorem q_parD {σ : L2.St} {H : Hp} {t1 t2 : TE} {D : Ends} {tz : TS} {i j : Nat} (h : t1 σ H fun v H1 => t2 σ H1 fun w H2 => ∃ v' w', [v, w] = [v', w'] ∧ tz D ((σ.set i (some v')).set j (some w')) H2) : tSeq (tPar i j (tCons t1 (tCons t2 tNil))) tz D σ H := h
theorem q_asgD {σ : L2.St} {H : Hp} {te : TE} {D : Ends} {tz : TS} {i : Nat} (h : te σ H fun v H1 => tz D (σ.set i (some v)) H1) : tSeq (tAsg te (gName i)) tz D σ H := h
end KG
set_option Elab.async false
set_option linter.all false
set_option maxRecDepth 100000
set_option maxHeartbeats 4000000
namespace KG
open PySem PySem.Spec PyProof.Rows L2 Evl KF
local macro_rules | `(tactic| walk_at "ev") => `(tactic| repeat' (first | exact ev_c | exact ev_var rfl | exact rv_I0 | refine' rv_I ?_ | refine' rv_eq ?_ | refine' rv_ne ?_ | refine' ev_op ?_ ?_ ?_ | exact ea_nil | refine' ea_cons ?_ ?_ | refine' et_test ?_ | refine' et_B ?_ | refine' et_not ?_ | refine' ev_notV ?_))

open PySem
/-! ### the law's names -/
def sgS (c : Nat) : Str := ⟨#[c]⟩
theorem join_sg : ∀ cs : List Nat, (Str.join "" (cs.map sgS)).cps.toList = cs
  | [] => rfl
  | [c] => rfl
  | c :: d :: r => by
    have ih := join_sg (d :: r)
    show ((sgS c ++ ("" : Str) ++ Str.join "" ((d :: r).map sgS)).cps).toList = _
    have : (sgS c ++ ("" : Str) ++ Str.join "" ((d :: r).map sgS)).cps = #[c] ++ #[] ++ (Str.join "" ((d :: r).map sgS)).cps := rfl
    rw [this, Array.toList_append, Array.toList_append, ih]
    rfl
theorem sum_sg : ∀ cs : List Nat, ((cs.map sgS).map (·.length)).sum = cs.length
  | [] => rfl
  | c :: r => by
    have ih := sum_sg r
    simp only [List.map_cons, List.sum_cons, ih, List.length_cons]
    have : (sgS c).length = 1 := rfl
    omega
def letC (f h k : Nat) : Nat := 97 + (f + h * k) % 26
def hops : List Nat := [1, 3, 5, 7, 9, 11]
theorem letters_at : ∀ k : Nat, k < 26 → lettersS.cps.toList[k]? = some (97 + k) := by
  have h : ((List.range 26).all fun k => decide (lettersS.cps.toList[k]? = some (97 + k))) = true := by decide +kernel
  exact fun k hk => of_decide_eq_true (all_nat h k hk)
theorem letC_in (f h k : Nat) : letC f h k ∈ lettersS.cps.toList := List.mem_of_getElem? (letters_at ((f + h * k) % 26) (Nat.mod_lt _ (by decide)))
theorem letC_ne : ∀ f : Nat, f < 26 → ∀ h ∈ hops, ∀ j : Nat, j < 4 → ∀ k : Nat, k < 4 → j ≠ k → letC f h j ≠ letC f h k := by
  have h : ((List.range 26).all fun f => hops.all fun h => (List.range 4).all fun j => (List.range 4).all fun k => decide (j ≠ k → letC f h j ≠ letC f h k)) = true := by decide +kernel
  exact fun f hf h' hh j hj k hk => of_decide_eq_true (all_nat (all_nat (List.all_eq_true.mp (all_nat h f hf) h' hh) j hj) k hk)
structure StemOk (s : Str) : Prop where
  le : s.cps.size ≤ 7
  all : ∀ c ∈ s.cps.toList, c ∈ lettersS.cps.toList
def Nm (s : Str) (f h k : Nat) (x : Str) : Prop := x = sgS (letC f h k) ∨ x = s ++ sgS (letC f h k)
theorem cps_cat (s : Str) (c : Nat) : (s ++ sgS c).cps.toList = s.cps.toList ++ [c] := by
  have : (s ++ sgS c).cps = s.cps ++ #[c] := rfl
  rw [this, Array.toList_append]
theorem Nm.ok {s : Str} {f h k : Nat} {x : Str} (n : Nm s f h k x) (so : StemOk s) : NameOk x := by
  rcases n with rfl | rfl
  · exact ⟨by show 1 ≤ 1; decide, by show 1 ≤ 8; decide, fun c hc => by
      have : c = letC f h k := List.mem_singleton.mp hc
      rw [this]; exact letC_in f h k⟩
  · have e := cps_cat s (letC f h k)
    have sz : (s ++ sgS (letC f h k)).cps.size = s.cps.size + 1 := by
      have := congrArg List.length e
      simpa using this
    exact ⟨by omega, by have := so.le; omega, fun c hc => by
      rw [e] at hc
      rcases List.mem_append.mp hc with h1 | h1
      · exact so.all c h1
      · rw [List.mem_singleton.mp h1]; exact letC_in f h k⟩
theorem Nm.last {s : Str} {f h k : Nat} {x : Str} (n : Nm s f h k x) : x.cps.toList.getLast? = some (letC f h k) := by
  rcases n with rfl | rfl
  · rfl
  · rw [cps_cat, List.getLast?_append]
    rfl
theorem Nm.ne {s : Str} {f h j k : Nat} {x y : Str} (hf : f < 26) (hh : h ∈ hops) (n : Nm s f h j x) (m : Nm s f h k y) (hj : j < 4) (hk : k < 4) (ne : j ≠ k) : x ≠ y := fun z => by
  have h1 := n.last
  rw [z, m.last] at h1
  exact letC_ne f hf h hh j hj k hk ne (Option.some.inj h1).symm
/-- four unlike names -/
structure NamesL (ns : List Str) : Prop where
  len : ns.length = 4
  ok : ∀ x ∈ ns, NameOk x
  nd : ns.Nodup
theorem names_l {s : Str} {f h : Nat} {ns : List Str} (so : StemOk s) (hf : f < 26) (hh : h ∈ hops) (hl : ns.length = 4) (hn : ∀ j x, ns[j]? = some x → Nm s f h j x) : NamesL ns := by
  match ns, hl, hn with
  | [w, x, y, z], _, hn =>
    have n0 := hn 0 w rfl
    have n1 := hn 1 x rfl
    have n2 := hn 2 y rfl
    have n3 := hn 3 z rfl
    refine ⟨rfl, fun v hv => ?_, ?_⟩
    · simp only [List.mem_cons, List.not_mem_nil, or_false] at hv
      rcases hv with rfl | rfl | rfl | rfl
      · exact n0.ok so
      · exact n1.ok so
      · exact n2.ok so
      · exact n3.ok so
    · simp only [List.nodup_cons, List.mem_cons, List.not_mem_nil, or_false, not_or, not_false_eq_true, List.nodup_nil, and_true]
      exact ⟨⟨n0.ne hf hh n1 (by decide) (by decide) (by decide), n0.ne hf hh n2 (by decide) (by decide) (by decide), n0.ne hf hh n3 (by decide) (by decide) (by decide)⟩, ⟨n1.ne hf hh n2 (by decide) (by decide) (by decide), n1.ne hf hh n3 (by decide) (by decide) (by decide)⟩, n2.ne hf hh n3 (by decide) (by decide) (by decide)⟩
def spNames : Sp := fun vs H Q _ => ∃ (p lc : Addr) (n : Nat), vs = [.ref p, .int 4] ∧ PenL H p lc n ∧ n + 14 ≤ 100000 ∧ ∀ l ns H', H l = none → ExP p H H' → PenL H' p lc (n + 14) → H' l = some (.lst (ns.map V.str)) → NamesL ns → Q (.ref l) H'
section
variable {K : PySem.W.Frag} {σ : L2.St} {H : Hp} {t1 t2 ta tb te : TE} {D : Ends} {tz : TS} {i i2 j jj n k : Nat} {p lc : Addr} {E E2 : XK} {Q : VK} {x : V} {vs : List Nat} {s0 : Str}
/-- ''.join([pick(pen, letters) for k in range(draw(pen, 8))]) -/
theorem q_stem (hw : ∀ x, wipe ((wipe σ vs).set j (some x)) vs = wipe σ vs) (h0 : σ[0]? = some (some (.ref p))) (hi : ∀ x, ((wipe σ vs).set j (some x))[0]? = some (some (.ref p))) (hi2 : ∀ x, ((wipe σ vs).set j (some x))[i2]? = some (some (.str lettersS))) (pen : PenL H p lc k) (hk : k + 8 ≤ 100000)
    (q : ∀ s H', StemOk s → ExP p H H' → PenL H' p lc (k + 8) → tz D (σ.set jj (some (.str s))) H') :
    tSeq (tAsg (tM1 (fun x xs H Q => ∃ a p, ∃ ys : List Str, x = .str a ∧ xs = [.ref p] ∧ (SqL K H p (ys.map V.str) ∨ SqT K H p (ys.map V.str)) ∧ (ys.map (·.length)).sum + ys.length * a.length ≤ 16777216 ∧ Q (.str (Txt.join a ys)) H) (tC (.str ""))
      (tLc (iRng1 (tCons (tCall spDraw [] E (tCons (tVar 0) (tCons (tC (.int 8)) tNil))) tNil)) (gName j) tYes (tCall spPick [] E2 (tCons (tVar 0) (tCons (tVar i2) tNil))) vs)) (gName jj)) tz D σ H := by
  refine ⟨⟨_, rfl⟩, ?_⟩
  refine draw_r (p := p) (lc := lc) (n := k) 8 h0 ev_c pen (by omega) (by decide) (by decide) fun d H1 hd e1 pen1 => ⟨(d : Nat), rfl, by omega, by omega, fun Dl hD => ?_⟩
  obtain ⟨np, nl⟩ := pen1.ne hD
  refine lc_range (lo := 0) (n := d) (fun i H' => ∃ cs : List Nat, cs.length = i ∧ (∀ c ∈ cs, c ∈ lettersS.cps.toList) ∧ ExP p H H' ∧ PenL H' p lc (k + 1 + i) ∧ H' Dl = some (.lst ((cs.map sgS).map V.str))) ⟨[], rfl, (fun _ z => nomatch z), e1.trans (ExP.of (Ex.new hD)), pen1.keep (Ex.new hD), upd_same⟩ (fun t H' hi' qq => ⟨hw _, (et_yes : EvT tYes _ H' true) H' (Ex.refl _) _ fun H3 e3 => ?_⟩) (fun H' qq => ?_)
  · obtain ⟨cs, hl, ha, e, b, hd2⟩ := qq
    have e := e.trans (ExP.of e3)
    have b := b.keep e3
    have hd2 := e3 _ _ hd2
    have ht : t < d := hi'
    refine pick_raw (hi _) (ev_raw (ev_var (hi2 _)) fun H4 e4 => pk_str (lc := lc) (b.keep e4) (by omega) (by decide) (by decide) fun c H5 hc e5 b5 => ?_)
    have e45 := (ExP.of e4).trans e5
    refine ⟨_, e45.ex _ _ hd2 (Ne.symm np), by rw [List.length_map, List.length_map, hl]; exact Nat.lt_of_lt_of_le (Nat.lt_of_lt_of_le ht (Nat.le_of_lt hd)) (by decide), cs ++ [c], by rw [List.length_append, hl] <;> rfl, fun c' hc' => ?_, ⟨fun b' o ho ne => ?_, fun l2 x2 y2 h2 => ?_⟩, ?_, by rw [upd_same, List.map_append, List.map_append] <;> rfl⟩
    · rcases List.mem_append.mp hc' with h1 | h1
      · exact ha c' h1
      · rw [List.mem_singleton.mp h1]; exact hc
    · have hb1 := e1.ex _ _ ho ne
      rw [upd_ne (ne_of_none hb1 hD)]
      exact e45.ex _ _ (e.ex _ _ ho ne) ne
    · obtain ⟨x3, y3, h3⟩ := (e.trans e45).fix l2 x2 y2 h2
      exact ⟨x3, y3, by rw [upd_ne np]; exact h3⟩
    · exact (b5.upd np nl).more (by omega)
  · obtain ⟨cs, hl, ha, e, b, hd2⟩ := qq
    refine ⟨"", Dl, cs.map sgS, rfl, rfl, .inl (sq_of hd2), ?_, q _ H' ⟨?_, ?_⟩ e (b.more (by omega))⟩
    · rw [sum_sg, List.length_map, hl]
      show d + d * 0 ≤ 16777216
      omega
    · rw [TL.join_eq]
      have := congrArg List.length (join_sg cs)
      rw [Array.length_toList] at this
      omega
    · rw [TL.join_eq, join_sg]
      exact ha
end
end KG
set_option Elab.async false
set_option linter.all false
set_option maxRecDepth 100000
set_option maxHeartbeats 4000000
namespace KG
open PySem PySem.Spec PyProof.Rows L2 Evl KF
local macro_rules | `(tactic| walk_at "ev") => `(tactic| repeat' (first | exact ev_c | exact ev_var rfl | exact rv_I0 | refine' rv_I ?_ | refine' rv_eq ?_ | refine' rv_ne ?_ | refine' ev_op ?_ ?_ ?_ | exact ea_nil | refine' ea_cons ?_ ?_ | refine' et_test ?_ | refine' et_B ?_ | refine' et_not ?_ | refine' ev_notV ?_))

open PySem
theorem rv_addS {H : Hp} {a b : Str} (h : a.length + b.length ≤ 100000) : RV (fun x y H Q => ∃ a b, x = .str a ∧ y = .str b ∧ a.length + b.length ≤ sizeLine ∧ Q (.str (a ++ b)) H) (.str a) (.str b) H (.str (a ++ b)) := fun H1 _ _ q => ⟨a, b, rfl, rfl, sz_of h, q H1 (Ex.refl H1)⟩
theorem iteC {c : Bool} {P Q : Prop} (h1 : c = true → P) (h2 : c = false → Q) : if c = true then P else Q := by
  cases c with
  | true => exact h1 rfl
  | false => exact h2 rfl
section
variable {P : Program} {w : World} {K : PySem.W.Frag} {mg : Str → Option Value} {base : Heap} {a : Ads}
theorem ok_names (T : Txt w K mg a) : FnOk P w K mg base CX0 3 a.f__law_names a.d__law_names ["_law_pen_here", "_law_many"] spNames := by
  have G__law_draw : FnOk P w K mg base CX0 2 _ _ _ _ := (ok_draw T).mono (by decide)
  have G__law_pick : FnOk P w K mg base CX0 2 _ _ _ _ := ok_pick T
  refine T.fn__law_names.ok sc__law_names (fun vs H Q E h => ?_) (fun cdv A outer st H vs Q E hr h => ?_)
  · obtain ⟨_, _, _, rfl, _⟩ := h
    rfl
  · obtain ⟨p, lc, n, rfl, pen, hn, k⟩ := h
    have hrc : Room 2 _ := hr
    refine ⟨_, (pss_cons (ps_set (i := 2) sc__law_names.nd rfl (Or.inr rfl) pe_str)
    (pss_cons (ps_set (i := 4) sc__law_names.nd rfl (Or.inl rfl) (pe_join pe_str (pe_lc (own := [("_law_k", 3)]) (g := gName 3) rfl sc__law_names.nd (pi_range1 rfl T.b_range (pa_cons (pe_call G__law_draw hrc rfl T.mg__law_draw T.fn__law_draw.kp (bd__law_draw T) .nil pass0 (pa_cons (pv 0) (pa_cons pe_int pa_nil))) pa_nil)) (blkOk_by (own := [("_law_k", 3)]) (N := n__law_names) (sc := defScope s__law_names) (by decide +kernel)) (fun _ _ _ _ _ => (pg_name (i := 3) sc__law_names.nd rfl (Or.inl rfl))) (fun _ _ _ _ _ => pts_nil) (fun _ _ _ _ _ => (pe_call G__law_pick hrc rfl T.mg__law_pick T.fn__law_pick.kp (bd__law_pick T) .nil pass0 (pa_cons (pv 0) (pa_cons (pv 2) pa_nil)))))))
    (pss_cons (ps_par (i := 5) (j := 6) rfl sc__law_names.nd rfl rfl (by decide) rfl rfl (pa_cons (pe_call G__law_draw hrc rfl T.mg__law_draw T.fn__law_draw.kp (bd__law_draw T) .nil pass0 (pa_cons (pv 0) (pa_cons pe_int pa_nil))) (pa_cons (pe_call G__law_pick hrc rfl T.mg__law_pick T.fn__law_pick.kp (bd__law_pick T) .nil pass0 (pa_cons (pv 0) (pa_cons (pe_lst (pa_cons pe_int (pa_cons pe_int (pa_cons pe_int (pa_cons pe_int (pa_cons pe_int (pa_cons pe_int pa_nil))))))) pa_nil))) pa_nil)) (by rfl))
    (pss_cons (ps_set (i := 7) sc__law_names.nd rfl (Or.inl rfl) (pe_lst pa_nil))
    (pss_cons (ps_for PassesOwn.never rfl (pi_range1 rfl T.b_range (pa_cons (pv 1) pa_nil)) (pg_name (i := 3) sc__law_names.nd rfl (Or.inl rfl)) (pss_cons (ps_set (i := 8) sc__law_names.nd rfl (Or.inl rfl) (pe_ix ix_str (pv 2) (pe_op op_mod (pe_callTy call_int1 (by rfl) T.b_int (by decide +kernel) (pa_cons (pe_op op_add (pv 5) (pe_op op_mul (pv 6) (pv 3))) pa_nil)) pe_int) (fun _ _ => rfl)))
    (pss_one (ps_expr (pe_bm PySem.F.plainAttrs_list PySem.F.slot_list_append PySem.F.type_list_append mt_append (pv 7) (pa_cons (pe_ifExp (pt_cmpR op_eq (pe_call G__law_draw hrc rfl T.mg__law_draw T.fn__law_draw.kp (bd__law_draw T) .nil pass0 (pa_cons (pv 0) (pa_cons pe_int pa_nil))) pe_int (nomark _)) (pv 8) (pe_op op_add_str (pv 4) (pv 8))) pa_nil))))))
    (pss_one (ps_ret (pv 7)))))))), ?_⟩
    refine q_asg (v := .str lettersS) ev_c fun H1 e1 => ?_
    refine q_stem (K := K) (p := p) (lc := lc) (k := n) (i2 := 2) (fun _ => rfl) rfl (fun _ => rfl) (fun _ => rfl) (pen.keep e1) (by omega) fun s H2 so e2 pen2 => ?_
    refine q_parD (draw_r (p := p) (lc := lc) 26 rfl ev_c pen2 (by omega) (by decide) (by decide) fun f H3 hf e3 pen3 => pick_raw rfl (el_raw (el_lst (vs := [.int 1, .int 3, .int 5, .int 7, .int 9, .int 11]) (ea_cons ev_c (ea_cons ev_c (ea_cons ev_c (ea_cons ev_c (ea_cons ev_c (ea_cons ev_c ea_nil)))))) (by show 6 ≤ 100000; decide)) fun l H4 hl e4 h4 => pk_list (lc := lc) (pen3.keep e4) (by omega) h4 (pen3.pen.ne_new hl) (by show 0 < 6; decide) (by show 6 ≤ 1000; decide) fun x H5 hx e5 pen5 => ⟨_, _, rfl, ?_⟩))
    obtain ⟨h, hh, rfl⟩ : ∃ h ∈ hops, x = .int (h : Nat) := by
      simp only [List.mem_cons, List.not_mem_nil, or_false] at hx
      rcases hx with rfl | rfl | rfl | rfl | rfl | rfl
      · exact ⟨1, by decide, rfl⟩
      · exact ⟨3, by decide, rfl⟩
      · exact ⟨5, by decide, rfl⟩
      · exact ⟨7, by decide, rfl⟩
      · exact ⟨9, by decide, rfl⟩
      · exact ⟨11, by decide, rfl⟩
    have h11 : h ≤ 11 := by
      have : ∀ h ∈ hops, h ≤ 11 := by decide
      exact this h hh
    refine q_asgL (xs := []) (el_lst ea_nil (by decide)) fun q H6 hq e6 h6 => ?_
    have e06 : ExP p H H6 := (((((ExP.of e1).trans e2).trans e3).trans (ExP.of e4)).trans e5).trans (ExP.of e6)
    have qp : q ≠ p := pen5.pen.ne_new hq
    have hq0 : H q = none := by
      cases hx : H q with
      | none => rfl
      | some o => have := (((((ExP.of e1).trans e2).trans e3).trans (ExP.of e4)).trans e5).ex _ _ hx qp; rw [hq] at this; cases this
    refine q_forR1 (n := 4) (ea_cons (ev_var rfl) ea_nil) (by decide) (fun i σ' H' => ∃ o3 o8 ns, σ' = [some (.ref p), some (.int 4), some (.str lettersS), o3, some (.str s), some (.int (f : Nat)), some (.int (h : Nat)), some (.ref q), o8] ∧ ExP p H H' ∧ PenL H' p lc (n + 10 + i) ∧ H' q = some (.lst (ns.map V.str)) ∧ ns.length = i ∧ ∀ j x, ns[j]? = some x → Nm s f h j x)
      (fun H7 e7 => ⟨_, _, [], rfl, e06.trans (ExP.of e7), ((pen5.keep e6).keep e7).more (by omega), e7 _ _ h6, rfl, fun _ _ z => nomatch z⟩) (fun i σ' H7 hi q7 => ?_) (fun σ' H7 q7 => ?_)
    · obtain ⟨o3, o8, ns, rfl, e7, pen7, h7, hl7, nm⟩ := q7
      have hi4 : i < 4 := by omega
      refine q_asg (v := .str (sgS (letC f h i))) (ev_op (ev_var rfl) (ev_op (ev_int (ev_op (ev_var rfl) (ev_op (ev_var rfl) (ev_var rfl) (rv_I (.inl ⟨by omega, by omega⟩))) rv_I0)) ev_c (rv_I (by decide))) (rv_ixS (by decide) ?_)) fun H8 e8 => ?_
      · have e : ((f : Int) + (h : Int) * (i : Int)) % 26 = (((f + h * i) % 26 : Nat) : Int) := by
          rw [Int.natCast_emod, Int.natCast_add, Int.natCast_mul]
          rfl
        rw [e]
        exact atI_nat (letters_at _ (Nat.mod_lt _ (by decide)))
      refine s_app1 (K := K) (j := 7) (l := q) (ys := ns.map V.str) rfl (e8 _ _ h7) ?_
      refine draw_r (p := p) (lc := lc) 3 rfl ev_c (pen7.keep e8) (by omega) (by decide) (by decide) fun d H9 hd e9 pen9 => ⟨rfl, _, rfl, ?_⟩
      have fin : ∀ x, Nm s f h i x → ∃ l' xs y, V.ref q = .ref l' ∧ [V.str x] = [y] ∧ H9 l' = some (.lst xs) ∧ xs.length < sizeLine ∧ (∃ (o3 o8 : Option V) (ns : List Str), ([some (.ref p), some (.int 4), some (.str lettersS), some (.int (i : Nat)), some (.str s), some (.int (f : Nat)), some (.int (h : Nat)), some (.ref q), some (.str (sgS (letC f h i)))] : L2.St) = [some (.ref p), some (.int 4), some (.str lettersS), o3, some (.str s), some (.int (f : Nat)), some (.int (h : Nat)), some (.ref q), o8] ∧ ExP p H (upd H9 l' (.lst (xs ++ [y]))) ∧ PenL (upd H9 l' (.lst (xs ++ [y]))) p lc (n + 10 + (i + 1)) ∧ (upd H9 l' (.lst (xs ++ [y]))) q = some (.lst (ns.map V.str)) ∧ ns.length = i + 1 ∧ ∀ j x, ns[j]? = some x → Nm s f h j x) := fun x hx => by
        have h9 := e9.ex _ _ (e8 _ _ h7) qp
        have e09 := (e7.trans (ExP.of e8)).trans e9
        have lq : lc ≠ q := fun z => by
          obtain ⟨ns0, a0, r0, g1, g2, _⟩ := pen
          have := g2
          rw [z, hq0] at this
          cases this
        refine ⟨q, ns.map V.str, .str x, rfl, rfl, h9, by rw [List.length_map, hl7]; exact Nat.lt_of_lt_of_le hi4 (by decide), _, _, ns ++ [x], rfl, ⟨fun b o ho ne => ?_, fun l2 x2 y2 h2 => ?_⟩, pen9.upd qp.symm lq, by rw [upd_same, List.map_append] <;> rfl, by rw [List.length_append, hl7] <;> rfl, fun j y hy => ?_⟩
        · rw [upd_ne (ne_of_none ho hq0)]
          exact e09.ex _ _ ho ne
        · obtain ⟨x3, y3, h3⟩ := e09.fix l2 x2 y2 h2
          exact ⟨x3, y3, by rw [upd_ne qp.symm]; exact h3⟩
        · by_cases hj : j < ns.length
          · rw [List.getElem?_append_left hj] at hy
            exact nm j y hy
          · rw [List.getElem?_append_right (by omega)] at hy
            have hj0 : j - ns.length = 0 := by
              by_cases z : j - ns.length = 0
              · exact z
              · rw [List.getElem?_eq_none (by show 1 ≤ _; omega)] at hy
                cases hy
            rw [hj0] at hy
            obtain rfl := Option.some.inj hy
            have : j = i := by omega
            rw [this]
            exact hx
      refine iteC (fun _ => ?_) fun _ => ?_
      · exact ⟨_, rfl, fin _ (.inl rfl)⟩
      · exact ⟨_, rfl, _, rfl, s, sgS (letC f h i), rfl, rfl, sz_of (by have := so.le; show s.cps.size + 1 ≤ 100000; omega), fin _ (.inr rfl)⟩
    · obtain ⟨o3, o8, ns, rfl, e7, pen7, h7, hl7, nm⟩ := q7
      exact s_ret (v := .ref q) (ev_var rfl) fun H8 e8 => k q ns H8 hq0 (e7.trans (ExP.of e8)) ((pen7.keep e8).more (by show n + 10 + 4 ≤ n + 14; omega)) (e8 _ _ h7) (names_l so hf hh hl7 nm)
end
end KG
set_option Elab.async false
set_option linter.all false
set_option maxRecDepth 100000
set_option maxHeartbeats 4000000
namespace KG
open PySem PySem.Spec PyProof.Rows L2 Evl KF
local macro_rules | `(tactic| walk_at "ev") => `(tactic| repeat' (first | exact ev_c | exact ev_var rfl | exact rv_I0 | refine' rv_I ?_ | refine' rv_eq ?_ | refine' rv_ne ?_ | refine' ev_op ?_ ?_ ?_ | exact ea_nil | refine' ea_cons ?_ ?_ | refine' et_test ?_ | refine' et_B ?_ | refine' et_not ?_ | refine' ev_notV ?_))

open PySem
/-! ### a line told -/
theorem and_cast (n m : Nat) : Builtin.bitAnd (n : Int) (m : Int) = ((n &&& m : Nat) : Int) := rfl
theorem sub_xor : ∀ m : Nat, m < 512 → 511 - m = 511 ^^^ m := by
  have h : ((List.range 512).all fun m => decide (511 - m = 511 ^^^ m)) = true := by decide +kernel
  exact fun m hm => of_decide_eq_true (all_nat h m hm)
theorem test_big {m i : Nat} (h : m < 512) (hi : 9 ≤ i) : m.testBit i = false := Nat.testBit_lt_two_pow (Nat.lt_of_lt_of_le h (Nat.pow_le_pow_right (by decide) hi : 2 ^ 9 ≤ 2 ^ i))
theorem test_511 : ∀ i : Nat, i < 9 → (511 : Nat).testBit i = true := by decide
/-- what may never stand is kept off what must -/
theorem and_apart {m : Nat} (x : Nat) (h : m < 512) : m &&& (x &&& (511 - m)) = 0 := by
  rw [sub_xor m h]
  refine Nat.eq_of_testBit_eq fun i => ?_
  rw [Nat.testBit_and, Nat.testBit_and, Nat.testBit_xor, Nat.zero_testBit]
  by_cases hi : i < 9
  · rw [test_511 i hi]
    cases m.testBit i <;> simp
  · rw [test_big h (by omega)]
    rfl
theorem and_lt512 (x m : Nat) : x &&& (511 - m) < 512 := Nat.lt_of_le_of_lt Nat.and_le_right (by omega)
def TellAt (H : Hp) (t : Addr) (L : Ln) : Prop := ∃ v1 v2, H t = some (.tup [.str L.form, v1, v2, .int (L.must : Nat), .int (L.never : Nat)]) ∧ ToldAt H v1 L.o1 ∧ ToldAt H v2 L.o2
theorem TellAt.mono {H H' : Hp} {t : Addr} {L : Ln} (h : TellAt H t L) (e : Ex H H') : TellAt H' t L := let ⟨v1, v2, h0, h1, h2⟩ := h; ⟨v1, v2, e _ _ h0, h1.mono e, h2.mono e⟩
section
variable {H H' : Hp} {p lc l : Addr} {n : Nat} {xs : List Str} {v : V} {o : Option (List Str)}
theorem PenL.ne_strs (pen : PenL H p lc n) (hl : H l = some (.lst (xs.map V.str))) : l ≠ p := fun z => by
  obtain ⟨ns, at_, rest, h1, _⟩ := pen
  rw [z, h1] at hl
  cases xs with
  | nil => cases hl
  | cons x r => cases hl
theorem PenL.ne_tup (pen : PenL H p lc n) {ys : List V} (hl : H l = some (.tup ys)) : l ≠ p := pen.pen.ne_tup hl
theorem ToldAt.exP (h : ToldAt H v o) (pen : PenL H p lc n) (e : ExP p H H') : ToldAt H' v o := by
  cases o with
  | none => exact h
  | some xs =>
    obtain ⟨l, hv, hl⟩ := h
    exact ⟨l, hv, e.ex _ _ hl (pen.ne_strs hl)⟩
theorem TellAt.exP {t : Addr} {L : Ln} (h : TellAt H t L) (pen : PenL H p lc n) (e : ExP p H H') : TellAt H' t L := let ⟨v1, v2, h0, h1, h2⟩ := h; ⟨v1, v2, e.ex _ _ h0 (pen.ne_tup h0), h1.exP pen e, h2.exP pen e⟩
theorem ModeAt.exP {a : Ads} {q : Addr} {m : Nat} (h : ModeAt a H q m) (pen : PenL H p lc n) (e : ExP p H H') : ModeAt a H' q m := by
  obtain ⟨dx, h⟩ := h
  obtain ⟨ns, at_, rest, h1, _⟩ := pen
  exact ⟨dx, e.ex _ _ h (ne_of h h1 fun z => nomatch z)⟩
theorem KeptAt.exP (h : KeptAt H v o) (pen : PenL H p lc n) (e : ExP p H H') : KeptAt H' v o := by
  cases o with
  | none => exact h
  | some xs =>
    obtain ⟨l, ys, hv, hm, hl⟩ := h
    exact ⟨l, ys, hv, hm, e.ex _ _ hl (pen.ne_tup hl)⟩
theorem LineAt.exP {a : Ads} {b : Addr} {L : Ln} (h : LineAt a H b L) (pen : PenL H p lc n) (e : ExP p H H') : LineAt a H' b L := by
  obtain ⟨dx, v1, v2, m1, m2, h0, h1, h2, h3, h4⟩ := h
  refine ⟨dx, v1, v2, m1, m2, e.ex _ _ h0 ?_, h1.exP pen e, h2.exP pen e, h3.exP pen e, h4.exP pen e⟩
  obtain ⟨ns, at_, rest, g1, _⟩ := pen
  exact ne_of h0 g1 fun z => nomatch z
end
theorem op_raw2 {ta tb : TE} {r : R2} {σ : L2.St} {H : Hp} {Q : VK} (h : ta σ H fun x H1 => tb σ H1 fun y H2 => r x y H2 Q) : tOp r ta tb σ H Q := h
theorem none_nt {ns : List Str} (hns : NamesL ns) : NamesOk none := ⟨fun _ z => (nomatch z), fun _ z => (nomatch z), fun _ z => (nomatch z), fun _ z => (nomatch z)⟩
theorem NamesOk.non : NamesOk none := ⟨fun _ z => (nomatch z), fun _ z => (nomatch z), fun _ z => (nomatch z), fun _ z => (nomatch z)⟩
theorem NamesOk.one {x : Str} (h : NameOk x) : NamesOk (some [x]) := by
  refine ⟨fun _ z => ?_, fun _ z => ?_, fun _ z => ?_, fun _ z => ?_⟩ <;> cases z
  · exact (by decide : 1 ≤ 1)
  · exact (by decide : 1 ≤ 2)
  · intro y hy
    rw [List.mem_singleton.mp hy]
    exact h
  · exact List.nodup_cons.mpr ⟨fun z => (nomatch z), List.nodup_nil⟩
theorem NamesOk.two {x y : Str} (h : NameOk x) (k : NameOk y) (ne : x ≠ y) : NamesOk (some [x, y]) := by
  refine ⟨fun _ z => ?_, fun _ z => ?_, fun _ z => ?_, fun _ z => ?_⟩ <;> cases z
  · exact (by decide : 1 ≤ 2)
  · exact (by decide : 2 ≤ 2)
  · intro z hz
    simp only [List.mem_cons, List.not_mem_nil, or_false] at hz
    rcases hz with rfl | rfl
    · exact h
    · exact k
  · simp only [List.nodup_cons, List.mem_cons, List.not_mem_nil, or_false, not_false_eq_true, List.nodup_nil, and_true]
    exact ne
/-- what stands at v -/
def OptAt (H : Hp) (v : V) : Prop := ∃ o, ToldAt H v o ∧ NamesOk o
theorem OptAt.exP {H H' : Hp} {p lc : Addr} {n : Nat} {v : V} (h : OptAt H v) (pen : PenL H p lc n) (e : ExP p H H') : OptAt H' v := let ⟨o, t, k⟩ := h; ⟨o, t.exP pen e, k⟩
theorem ret_raw {te : TE} {σ : L2.St} {H : Hp} {D : Ends} (h : te σ H D.rt) : tRet te D σ H := h
def musts : List Nat := [0, 0, 256, 320, 448, 73, 292, 128, 7]
def nevers : List Nat := [0, 0, 7, 18, 73, 511, 64, 146]
def spLLine : Sp := fun vs H Q _ => ∃ (p lc ln : Addr) (n : Nat) (ns : List Str), vs = [.ref p, .ref ln] ∧ PenL H p lc n ∧ n + 9 ≤ 100000 ∧ H ln = some (.lst (ns.map V.str)) ∧ NamesL ns ∧ ∀ t L H', H t = none → ExP p H H' → PenL H' p lc (n + 9) → TellAt H' t L → LnOk L → Q (.ref t) H'
section
variable {K : PySem.W.Frag} {σ : L2.St} {H : Hp} {t1 t2 t3 t4 t5 ta tb te : TE} {D : Ends} {tz : TS} {i i2 j jj n k : Nat} {p lc : Addr} {E E2 : XK} {Q : VK} {x : V} {c1 c2 c3 c4 c5 c6 c7 c8 c9 : V}
theorem lst1_raw (h : t1 σ H fun v H1 => [v].length ≤ sizeLine ∧ ∀ l, H1 l = none → Q (.ref l) (upd H1 l (.lst [v]))) : tLst (tCons t1 tNil) σ H Q := h
theorem lst5_raw (h : t3 σ H fun v3 H1 => t4 σ H1 fun v4 H2 => t5 σ H2 fun v5 H3 => [c1, c2, v3, v4, v5].length ≤ sizeLine ∧ ∀ l, H3 l = none → Q (.ref l) (upd H3 l (.lst [c1, c2, v3, v4, v5]))) : tLst (tCons (tC c1) (tCons (tC c2) (tCons t3 (tCons t4 (tCons t5 tNil))))) σ H Q := h
theorem lst5b_raw (h : t4 σ H fun v4 H2 => t5 σ H2 fun v5 H3 => [c1, c2, c3, v4, v5].length ≤ sizeLine ∧ ∀ l, H3 l = none → Q (.ref l) (upd H3 l (.lst [c1, c2, c3, v4, v5]))) : tLst (tCons (tC c1) (tCons (tC c2) (tCons (tC c3) (tCons t4 (tCons t5 tNil))))) σ H Q := h
theorem lst10_raw (h : te σ H fun v H1 => [c1, c2, c3, c4, c5, c6, c7, c8, c9, v].length ≤ sizeLine ∧ ∀ l, H1 l = none → Q (.ref l) (upd H1 l (.lst [c1, c2, c3, c4, c5, c6, c7, c8, c9, v]))) : tLst (tCons (tC c1) (tCons (tC c2) (tCons (tC c3) (tCons (tC c4) (tCons (tC c5) (tCons (tC c6) (tCons (tC c7) (tCons (tC c8) (tCons (tC c9) (tCons te tNil)))))))))) σ H Q := h
theorem lst9_raw (h : te σ H fun v H1 => [c1, c2, c3, c4, c5, c6, c7, c8, v].length ≤ sizeLine ∧ ∀ l, H1 l = none → Q (.ref l) (upd H1 l (.lst [c1, c2, c3, c4, c5, c6, c7, c8, v]))) : tLst (tCons (tC c1) (tCons (tC c2) (tCons (tC c3) (tCons (tC c4) (tCons (tC c5) (tCons (tC c6) (tCons (tC c7) (tCons (tC c8) (tCons te tNil))))))))) σ H Q := h
theorem tup5_raw {tr : TA} (h : te σ H fun v H1 => tr σ H1 fun xs H2 => (v :: xs).length ≤ sizeLine ∧ ∀ l, H2 l = none → Q (.ref l) (upd H2 l (.tup (v :: xs)))) : tTup (tCons te tr) σ H Q := h
end
section
variable {P : Program} {w : World} {K : PySem.W.Frag} {mg : Str → Option Value} {base : Heap} {a : Ads}
theorem ok_lline (T : Txt w K mg a) : FnOk P w K mg base CX0 3 a.f__law_line a.d__law_line ["_law_pen_here", "_law_names_here"] spLLine := by
  have G__law_draw : FnOk P w K mg base CX0 2 _ _ _ _ := (ok_draw T).mono (by decide)
  have G__law_pick : FnOk P w K mg base CX0 2 _ _ _ _ := ok_pick T
  refine T.fn__law_line.ok sc__law_line (fun vs H Q E h => ?_) (fun cdv A outer st H vs Q E hr h => ?_)
  · obtain ⟨_, _, _, _, _, rfl, _⟩ := h
    rfl
  · obtain ⟨p, lc, ln, n, ns, rfl, pen, hn, hl, hns, k⟩ := h
    have hrc : Room 2 _ := hr
    refine ⟨_, (pss_cons (ps_set (i := 2) sc__law_line.nd rfl (Or.inl rfl) (pe_call G__law_pick hrc rfl T.mg__law_pick T.fn__law_pick.kp (bd__law_pick T) .nil pass0 (pa_cons (pv 0) (pa_cons (pe_lst (pa_cons pe_non (pa_cons pe_non (pa_cons (pe_lst (pa_cons (pe_call G__law_pick hrc rfl T.mg__law_pick T.fn__law_pick.kp (bd__law_pick T) .nil pass0 (pa_cons (pv 0) (pa_cons (pv 1) pa_nil))) pa_nil)) (pa_cons (pe_slice sl_list (pv 1) po_none (po_some pe_int)) (pa_cons (pe_slice sl_list (pv 1) (po_some pe_int) (po_some pe_int)) pa_nil)))))) pa_nil))))
    (pss_cons (ps_set (i := 3) sc__law_line.nd rfl (Or.inl rfl) (pe_call G__law_pick hrc rfl T.mg__law_pick T.fn__law_pick.kp (bd__law_pick T) .nil pass0 (pa_cons (pv 0) (pa_cons (pe_lst (pa_cons pe_non (pa_cons pe_non (pa_cons pe_non (pa_cons (pe_lst (pa_cons (pe_call G__law_pick hrc rfl T.mg__law_pick T.fn__law_pick.kp (bd__law_pick T) .nil pass0 (pa_cons (pv 0) (pa_cons (pv 1) pa_nil))) pa_nil)) (pa_cons (pe_slice sl_list (pv 1) (po_some pe_int) (po_some pe_int)) pa_nil)))))) pa_nil))))
    (pss_cons (ps_set (i := 4) sc__law_line.nd rfl (Or.inl rfl) (pe_call G__law_pick hrc rfl T.mg__law_pick T.fn__law_pick.kp (bd__law_pick T) .nil pass0 (pa_cons (pv 0) (pa_cons (pe_lst (pa_cons pe_int (pa_cons pe_int (pa_cons pe_int (pa_cons pe_int (pa_cons pe_int (pa_cons pe_int (pa_cons pe_int (pa_cons pe_int (pa_cons pe_int (pa_cons (pe_call G__law_draw hrc rfl T.mg__law_draw T.fn__law_draw.kp (bd__law_draw T) .nil pass0 (pa_cons (pv 0) (pa_cons pe_int pa_nil))) pa_nil))))))))))) pa_nil))))
    (pss_cons (ps_set (i := 5) sc__law_line.nd rfl (Or.inl rfl) (pe_op op_and (pe_call G__law_pick hrc rfl T.mg__law_pick T.fn__law_pick.kp (bd__law_pick T) .nil pass0 (pa_cons (pv 0) (pa_cons (pe_lst (pa_cons pe_int (pa_cons pe_int (pa_cons pe_int (pa_cons pe_int (pa_cons pe_int (pa_cons pe_int (pa_cons pe_int (pa_cons pe_int (pa_cons (pe_call G__law_draw hrc rfl T.mg__law_draw T.fn__law_draw.kp (bd__law_draw T) .nil pass0 (pa_cons (pv 0) (pa_cons pe_int pa_nil))) pa_nil)))))))))) pa_nil))) (pe_op op_sub pe_int (pv 4))))
    (pss_one (ps_ret (pe_tup (pa_cons (pe_call G__law_pick hrc rfl T.mg__law_pick T.fn__law_pick.kp (bd__law_pick T) .nil pass0 (pa_cons (pv 0) (pa_cons (pe_lst (pa_cons pe_str (pa_cons pe_str pa_nil))) pa_nil))) (pa_cons (pv 2) (pa_cons (pv 3) (pa_cons (pv 4) (pa_cons (pv 5) pa_nil)))))))))))), ?_⟩
    obtain ⟨n0, n1, n2, n3, rfl⟩ : ∃ n0 n1 n2 n3, ns = [n0, n1, n2, n3] := by
      match ns, hns.len with
      | [a, b, c, d], _ => exact ⟨a, b, c, d, rfl⟩
    have ok0 := hns.ok n0 (by simp)
    have ok1 := hns.ok n1 (by simp)
    have ok2 := hns.ok n2 (by simp)
    have ok3 := hns.ok n3 (by simp)
    have nd := hns.nd
    simp only [List.nodup_cons, List.mem_cons, List.not_mem_nil, or_false, not_or] at nd
    have onew : ∀ {q : Addr} {H1 : Hp} {xs : List Str}, H1 q = some (.lst (xs.map V.str)) → NamesOk (some xs) → OptAt H1 (.ref q) := fun h ok => ⟨some _, ⟨_, rfl, h⟩, ok⟩
    -- owners
    refine q_asgD (pick_raw rfl (lst5_raw (lst1_raw (pick_raw rfl (ev_raw (ev_var rfl) fun H1 e1 => pk_list (lc := lc) (pen.keep e1) (by omega) (e1 _ _ hl) ((pen.keep e1).ne_strs (e1 _ _ hl)) (by show 0 < 4; decide) (by show 4 ≤ 1000; decide) fun x1 H2 hx1 e2 pen2 => ⟨by show 1 ≤ sizeLine; decide, fun q1 hq1 => ?_⟩)))))
    obtain ⟨y1, hy1, rfl⟩ := List.mem_map.mp hx1
    have hl2 := e2.ex _ _ (e1 _ _ hl) ((pen.keep e1).ne_strs (e1 _ _ hl))
    have en1 : Ex H2 (upd H2 q1 (.lst [.str y1])) := Ex.new hq1
    have g1 : upd H2 q1 (.lst [.str y1]) q1 = some (.lst [.str y1]) := upd_same
    have pen3 := pen2.keep en1
    have hl3 := en1 _ _ hl2
    have x3 : ExP p H (upd H2 q1 (.lst [.str y1])) := ((ExP.of e1).trans e2).trans (ExP.of en1)
    generalize upd H2 q1 (.lst [.str y1]) = H3 at en1 g1 pen3 hl3 x3
    refine el_raw (el_is (el_sliceL (K := K) (ev_var rfl) eo_none (eo_some ev_c) (sq_of hl3)) (show _ = [n0, n1].map V.str from rfl)) fun s1 H4 hs1 e4 h4 => el_raw (el_is (el_sliceL (K := K) (ev_var rfl) (eo_some ev_c) (eo_some ev_c) (sq_of (e4 _ _ hl3))) (show _ = [n1, n2].map V.str from rfl)) fun s2 H5 hs2 e5 h5 => ⟨by show 5 ≤ sizeLine; decide, fun q2 hq2 => ?_⟩
    have e35 := e4.trans e5
    have en2 : Ex H5 (upd H5 q2 (.lst [.non, .non, .ref q1, .ref s1, .ref s2])) := Ex.new hq2
    have pen6 := pen3.keep (e35.trans en2)
    have hl6 := (e35.trans en2) _ _ hl3
    have x6 := x3.trans (ExP.of (e35.trans en2))
    have f1 := (e35.trans en2) _ _ g1
    have f2 := (e5.trans en2) _ _ h4
    have f3 := en2 _ _ h5
    have ne6 : q2 ≠ p := (pen3.keep e35).pen.ne_new hq2
    refine pk_list (lc := lc) pen6 (by omega) upd_same ne6 (by show 0 < 5; decide) (by show 5 ≤ 1000; decide) fun vo H7 hvo e7 pen7 => ?_
    have ov : OptAt H7 vo := by
      refine OptAt.exP ?_ pen6 e7
      simp only [List.mem_cons, List.not_mem_nil, or_false] at hvo
      rcases hvo with rfl | rfl | rfl | rfl | rfl
      · exact ⟨none, rfl, .non⟩
      · exact ⟨none, rfl, .non⟩
      · exact onew (xs := [y1]) f1 (.one (hns.ok _ hy1))
      · exact onew f2 (.two ok0 ok1 nd.1.1)
      · exact onew f3 (.two ok1 ok2 nd.2.1.1)
    have hl7 := e7.ex _ _ hl6 (pen6.ne_strs hl6)
    have x7 := x6.trans e7
    clear hvo f1 f2 f3 g1 h4 h5 hs1 hs2 hq1 hq2 en1 en2
    -- groups
    refine q_asgD (pick_raw rfl (lst5b_raw (lst1_raw (pick_raw rfl (ev_raw (ev_var rfl) fun H8 e8 => pk_list (lc := lc) (pen7.keep e8) (by omega) (e8 _ _ hl7) ((pen7.keep e8).ne_strs (e8 _ _ hl7)) (by show 0 < 4; decide) (by show 4 ≤ 1000; decide) fun x2 H9 hx2 e9 pen9 => ⟨by show 1 ≤ sizeLine; decide, fun q3 hq3 => ?_⟩)))))
    obtain ⟨y2, hy2, rfl⟩ := List.mem_map.mp hx2
    have hl9 := e9.ex _ _ (e8 _ _ hl7) ((pen7.keep e8).ne_strs (e8 _ _ hl7))
    have en3 : Ex H9 (upd H9 q3 (.lst [.str y2])) := Ex.new hq3
    have g3 : upd H9 q3 (.lst [.str y2]) q3 = some (.lst [.str y2]) := upd_same
    have pen10 := pen9.keep en3
    have hl10 := en3 _ _ hl9
    have x710 : ExP p H7 (upd H9 q3 (.lst [.str y2])) := ((ExP.of e8).trans e9).trans (ExP.of en3)
    generalize upd H9 q3 (.lst [.str y2]) = H10 at en3 g3 pen10 hl10 x710
    refine el_raw (el_is (el_sliceL (K := K) (ev_var rfl) (eo_some ev_c) (eo_some ev_c) (sq_of hl10)) (show _ = [n2, n3].map V.str from rfl)) fun s3 H11 hs3 e11 h11 => ⟨by show 5 ≤ sizeLine; decide, fun q4 hq4 => ?_⟩
    have en4 : Ex H11 (upd H11 q4 (.lst [.non, .non, .non, .ref q3, .ref s3])) := Ex.new hq4
    have pen12 := pen10.keep (e11.trans en4)
    have f4 := (e11.trans en4) _ _ g3
    have f5 := en4 _ _ h11
    have ne12 : q4 ≠ p := (pen10.keep e11).pen.ne_new hq4
    refine pk_list (lc := lc) pen12 (by omega) upd_same ne12 (by show 0 < 5; decide) (by show 5 ≤ 1000; decide) fun vg H13 hvg e13 pen13 => ?_
    have og : OptAt H13 vg := by
      refine OptAt.exP ?_ pen12 e13
      simp only [List.mem_cons, List.not_mem_nil, or_false] at hvg
      rcases hvg with rfl | rfl | rfl | rfl | rfl
      · exact ⟨none, rfl, .non⟩
      · exact ⟨none, rfl, .non⟩
      · exact ⟨none, rfl, .non⟩
      · exact onew (xs := [y2]) f4 (.one (hns.ok _ hy2))
      · exact onew f5 (.two ok2 ok3 nd.2.2.1)
    have x713 := (x710.trans (ExP.of (e11.trans en4))).trans e13
    have ov13 := ov.exP pen7 x713
    have x13 := x7.trans x713
    clear hvg f4 f5 g3 h11 hs3 hq3 hq4 en3 en4
    -- must
    refine q_asgD (pick_raw rfl (lst10_raw (draw_r (p := p) (lc := lc) 512 rfl ev_c pen13 (by omega) (by decide) (by decide) fun d1 H14 hd1 e14 pen14 => ⟨by show 10 ≤ sizeLine; decide, fun q5 hq5 => ?_⟩)))
    refine pk_list (lc := lc) (pen14.keep (Ex.new hq5)) (by omega) upd_same (pen14.pen.ne_new hq5) (by show 0 < 10; decide) (by show 10 ≤ 1000; decide) fun vm H15 hvm e15 pen15 => ?_
    obtain ⟨m, hm, rfl⟩ : ∃ m : Nat, m < 512 ∧ vm = .int (m : Nat) := by
      simp only [List.mem_cons, List.not_mem_nil, or_false] at hvm
      rcases hvm with rfl | rfl | rfl | rfl | rfl | rfl | rfl | rfl | rfl | rfl
      · exact ⟨0, by decide, rfl⟩
      · exact ⟨0, by decide, rfl⟩
      · exact ⟨256, by decide, rfl⟩
      · exact ⟨320, by decide, rfl⟩
      · exact ⟨448, by decide, rfl⟩
      · exact ⟨73, by decide, rfl⟩
      · exact ⟨292, by decide, rfl⟩
      · exact ⟨128, by decide, rfl⟩
      · exact ⟨7, by decide, rfl⟩
      · exact ⟨d1, hd1, rfl⟩
    have x1315 := (e14.trans (ExP.of (Ex.new hq5))).trans e15
    have ov15 := ov13.exP pen13 x1315
    have og15 := og.exP pen13 x1315
    have x15 := x13.trans x1315
    clear hvm
    -- never
    refine q_asgD (op_raw2 (pick_raw rfl (lst9_raw (draw_r (p := p) (lc := lc) 512 rfl ev_c pen15 (by omega) (by decide) (by decide) fun d2 H16 hd2 e16 pen16 => ⟨by show 9 ≤ sizeLine; decide, fun q6 hq6 => ?_⟩))))
    refine pk_list (lc := lc) (pen16.keep (Ex.new hq6)) (by omega) upd_same (pen16.pen.ne_new hq6) (by show 0 < 9; decide) (by show 9 ≤ 1000; decide) fun vn H17 hvn e17 pen17 => ?_
    obtain ⟨r, rfl⟩ : ∃ r : Nat, vn = .int (r : Nat) := by
      simp only [List.mem_cons, List.not_mem_nil, or_false] at hvn
      rcases hvn with rfl | rfl | rfl | rfl | rfl | rfl | rfl | rfl | rfl
      · exact ⟨0, rfl⟩
      · exact ⟨0, rfl⟩
      · exact ⟨7, rfl⟩
      · exact ⟨18, rfl⟩
      · exact ⟨73, rfl⟩
      · exact ⟨511, rfl⟩
      · exact ⟨64, rfl⟩
      · exact ⟨146, rfl⟩
      · exact ⟨d2, rfl⟩
    have x1517 := (e16.trans (ExP.of (Ex.new hq6))).trans e17
    have ov17 := ov15.exP pen15 x1517
    have og17 := og15.exP pen15 x1517
    have x17 := x15.trans x1517
    clear hvn
    refine ev_raw (ev_op ev_c (ev_var rfl) rv_I0) fun H18 e18 => ⟨_, _, rfl, rfl, ?_⟩
    have eN : Builtin.bitAnd (r : Int) (511 - (m : Int)) = ((r &&& (511 - m) : Nat) : Int) := by
      rw [show (511 : Int) - (m : Int) = ((511 - m : Nat) : Int) by omega, and_cast]
    show tRet _ _ [some (.ref p), some (.ref ln), some vo, some vg, some (.int (m : Nat)), some (.int (Builtin.bitAnd (r : Int) (511 - (m : Int))))] H18
    rw [eN]
    have pen18 := pen17.keep e18
    -- the line
    refine ret_raw (tup5_raw (pick_raw rfl (el_raw (el_lst (vs := [.str "file", .str "folder"]) (ea_cons ev_c (ea_cons ev_c ea_nil)) (by show 2 ≤ 100000; decide)) fun q7 H19 hq7 e19 h19 => pk_list (lc := lc) (pen18.keep e19) (by omega) h19 (pen18.pen.ne_new hq7) (by show 0 < 2; decide) (by show 2 ≤ 1000; decide) fun vf H20 hvf e20 pen20 => ?_)))
    obtain ⟨f, hf, rfl⟩ : ∃ f : Str, (f = "file" ∨ f = "folder") ∧ vf = .str f := by
      simp only [List.mem_cons, List.not_mem_nil, or_false] at hvf
      rcases hvf with rfl | rfl
      · exact ⟨_, .inl rfl, rfl⟩
      · exact ⟨_, .inr rfl, rfl⟩
    have x1720 := (ExP.of (e18.trans e19)).trans e20
    obtain ⟨o1, tv, okv⟩ := ov17.exP pen17 x1720
    obtain ⟨o2, tg, okg⟩ := og17.exP pen17 x1720
    have x20 := x17.trans x1720
    refine (ea_cons (ev_var rfl) (ea_cons (ev_var rfl) (ea_cons (ev_var rfl) (ea_cons (ev_var rfl) ea_nil))) : EvA _ _ H20 [vo, vg, .int (m : Nat), .int ((r &&& (511 - m) : Nat) : Int)]) H20 (Ex.refl _) _ fun H21 e21 => ⟨by show 5 ≤ sizeLine; decide, fun t ht => ?_⟩
    have en : Ex H21 (upd H21 t (.tup [.str f, vo, vg, .int (m : Nat), .int ((r &&& (511 - m) : Nat) : Int)])) := Ex.new ht
    have tp : t ≠ p := (pen20.keep e21).pen.ne_new ht
    refine k t ⟨f, o1, o2, m, r &&& (511 - m)⟩ _ ?_ (x20.trans (ExP.of (e21.trans en))) (pen20.keep (e21.trans en)) ⟨vo, vg, upd_same, tv.mono (e21.trans en), tg.mono (e21.trans en)⟩ ⟨hf, okv, okg, hm, and_lt512 _ _, ?_⟩
    · cases hx : H t with
      | none => rfl
      | some o =>
        have := e21 _ _ (x20.ex _ _ hx tp)
        rw [ht] at this
        cases this
    · show Builtin.bitAnd (m : Int) ((r &&& (511 - m) : Nat) : Int) = 0
      rw [and_cast, and_apart r hm]
      rfl
end
end KG
set_option Elab.async false
set_option linter.all false
set_option maxRecDepth 100000
set_option maxHeartbeats 4000000
namespace KG
open PySem PySem.Spec PyProof.Rows L2 Evl KF
local macro_rules | `(tactic| walk_at "ev") => `(tactic| repeat' (first | exact ev_c | exact ev_var rfl | exact rv_I0 | refine' rv_I ?_ | refine' rv_eq ?_ | refine' rv_ne ?_ | refine' ev_op ?_ ?_ ?_ | exact ea_nil | refine' ea_cons ?_ ?_ | refine' et_test ?_ | refine' et_B ?_ | refine' et_not ?_ | refine' ev_notV ?_))

open PySem
/-- a new line -/
def EvLn (a : Ads) (te : TE) (σ : L2.St) (H : Hp) (L : Ln) : Prop := ∀ H1, Ex H H1 → ∀ Q : VK, (∀ b H2, H1 b = none → Ex H1 H2 → LineAt a H2 b L → Q (.ref b) H2) → te σ H1 Q
theorem em_line {a : Ads} {ta : TA} {σ : L2.St} {H : Hp} {L : Ln} {v1 v2 : V} {vs dvs : List V} {E : XK} (h : EvA ta σ H vs) (hv : vs ++ dvs = [.str L.form, v1, v2, .int (L.must : Nat), .int (L.never : Nat)]) (t1 : ToldAt H v1 L.o1) (t2 : ToldAt H v2 L.o2) (ok : LnOk L) : EvLn a (tMake a.f_Line (spLine a) dvs E ta) σ H L := fun H0 e Q q =>
  h H0 e _ fun H2 e2 b db hb hdb hne => by
    have hb2 : upd H2 db (.own b) b = none := by rw [upd_ne (Ne.symm hne)]; exact hb
    have en : Ex H2 (upd (upd H2 db (.own b)) b (.ins a.f_Line db [])) := (Ex.new hdb).trans (Ex.new hb2)
    refine ⟨b, db, v1, v2, L, by rw [hv], ok, upd_same, (t1.mono (e.trans e2)).mono en, (t2.mono (e.trans e2)).mono en, fun H5 e5 h5 => ⟨rfl, q b H5 (fresh_back e2 hb) ?_ h5⟩⟩
    exact fun c o hc => e5 _ _ (en _ _ (e2 _ _ hc)) (ne_of_none (e2 _ _ hc) hb)
def spMade (a : Ads) : Sp := fun vs H Q _ => ∃ (t : Addr) (L : Ln), vs = [.ref t] ∧ TellAt H t L ∧ LnOk L ∧ ∀ b H', H b = none → Ex H H' → LineAt a H' b L → Q (.ref b) H'
def spLLets : Sp := fun vs H Q _ => ∃ (t : Addr) (L : Ln) (f o g : Str) (n : Nat), vs = [.ref t, .str f, .int (n : Nat), .str o, .str g] ∧ TellAt H t L ∧ ∀ H', Ex H H' → Q (.bl (letsB L f n o g)) H'
def spLPats : Sp := fun vs H Q _ => ∃ (t : Addr) (L : Ln) (i : Nat), vs = [.ref t, .str (letS i)] ∧ TellAt H t L ∧ LnOk L ∧ i < 3 ∧ ∀ q H', H q = none → Ex H H' → H' q = some (.lst (given 8 (patB L i) fun p => .int (p : Nat))) → Q (.ref q) H'
section
variable {K : PySem.W.Frag} {σ : L2.St} {H : Hp} {te ta tb ty : TE} {x v : V} {p : Addr} {o : Option (List Str)} {w : Str} {b : Bool}
theorem rv_notN : RV (fun x y H Q => y = .non ∧ Q (.bl (!decide (x = .non))) H) x .non H (.bl (!decide (x = .non))) := fun H1 _ _ q => ⟨rfl, q H1 (Ex.refl H1)⟩
theorem ei (x y : Int) : decide (V.int x = V.int y) = decide (x = y) := decide_eq_decide.mpr ⟨fun z => by injection z, fun z => by rw [z]⟩
/-- v is not None and w not in v -/
theorem et_nonamed (h : ∀ H1, Ex H H1 → Ev te σ H1 v) (t : ToldAt H v o) (hw : Ev ty σ H (.str w)) : EvT (tAnd (tTest (tOp (fun x y H Q => y = .non ∧ Q (.bl (!decide (x = .non))) H) te (tC .non))) (tTest (tOp (rIn K true) ty te))) σ H (!namesB o w) := by
  have h0 := h H (Ex.refl H)
  cases o with
  | none =>
    obtain rfl : v = .non := t
    exact et_is (et_and (a := false) (b := true) (et_is (et_test (ev_op h0 ev_c rv_notN)) rfl) fun z => nomatch z) rfl
  | some xs =>
    obtain ⟨l, rfl, hl⟩ := t
    refine et_is (et_and (a := true) (b := !decide (w ∈ xs)) (et_is (et_test (ev_op h0 ev_c rv_notN)) rfl) fun _ => et_is (et_test (ev_op hw h0 (rv_niL (K := K) (sq_of hl) rfl (flat_strs _)))) (by rw [inV_strs])) rfl
/-- v[0] == .. in a told tuple -/
theorem ev_ixt {xs : List V} {i : Nat} (h : Ev te σ H (.ref p)) (hp : H p = some (.tup xs)) (hx : xs[i]? = some x) : Ev (tOp (rIxT K) te (tC (.int (i : Nat)))) σ H x := ev_op h ev_c (rv_ixT (st_of hp) (atI_nat hx))
end
/-- three different keys, merged -/
theorem merge3 {k1 k2 k3 : Key} {x y z : V} (h1 : k1 ≠ k2) (h2 : k1 ≠ k3) (h3 : k2 ≠ k3) : mergeK [] [(k1, x), (k2, y), (k3, z)] = [(k1, x), (k2, y), (k3, z)] := by
  have e1 : putK [] k1 x = [(k1, x)] := putK_new x rfl
  have e2 : putK [(k1, x)] k2 y = [(k1, x), (k2, y)] := putK_new y ((valV_neg h1).trans rfl)
  have e3 : putK [(k1, x), (k2, y)] k3 z = [(k1, x), (k2, y), (k3, z)] := putK_new z ((valV_neg h2).trans ((valV_neg h3).trans rfl))
  show putK (putK (putK [] k1 x) k2 y) k3 z = _
  rw [e1, e2, e3]
/-- a new dict -/
def EvD (te : TE) (σ : L2.St) (H : Hp) (kvs : List (Key × V)) : Prop := ∀ H1, Ex H H1 → ∀ Q : VK, (∀ p H2, H1 p = none → Ex H1 H2 → H2 p = some (.dK kvs) → Q (.ref p) H2) → te σ H1 Q
section
variable {K : PySem.W.Frag} {σ : L2.St} {H H' : Hp} {ta tb te tx tv : TE} {t u : TT} {x y z v : V} {r : R2} {D : Ends} {tz : TS}
theorem ed_disp3 {s1 s2 s3 : Str} {t1 t2 t3 v1 v2 v3 : TE} (k1 : Ev t1 σ H (.str s1)) (h1 : Ev v1 σ H x) (k2 : Ev t2 σ H (.str s2)) (h2 : Ev v2 σ H y) (k3 : Ev t3 σ H (.str s3)) (h3 : Ev v3 σ H z) (n1 : (Sum.inr s1 : Key) ≠ .inr s2) (n2 : (Sum.inr s1 : Key) ≠ .inr s3) (n3 : (Sum.inr s2 : Key) ≠ .inr s3) :
    EvD (tDisp [(t1, v1), (t2, v2), (t3, v3)]) σ H [(.inr s1, x), (.inr s2, y), (.inr s3, z)] := fun H1 e Q q p hp => by
  have e0 : Ex H (upd H1 p (.dK [])) := e.trans (Ex.new hp)
  refine k1 _ e0 _ fun H2 e2 => h1 H2 (e0.trans e2) _ fun H3 e3 => k2 H3 ((e0.trans e2).trans e3) _ fun H4 e4 => h2 H4 (((e0.trans e2).trans e3).trans e4) _ fun H5 e5 => k3 H5 ((((e0.trans e2).trans e3).trans e4).trans e5) _ fun H6 e6 => h3 H6 (((((e0.trans e2).trans e3).trans e4).trans e5).trans e6) _ fun H7 e7 => ?_
  have e27 : Ex (upd H1 p (.dK [])) H7 := ((((e2.trans e3).trans e4).trans e5).trans e6).trans e7
  refine ⟨e27 _ _ upd_same, [(.inr s1, x), (.inr s2, y), (.inr s3, z)], rfl, by show 3 ≤ 15; decide, ?_⟩
  rw [merge3 n1 n2 n3]
  exact q p _ hp (fun b o hb => by rw [upd_ne (ne_of_none hb hp)]; exact e27 _ _ (Ex.new hp _ _ hb)) upd_same
theorem ev_dgetN {ta tb : TE} {kvs : List (Key × V)} {s : Str} (h : EvD ta σ H kvs) (hk : Ev tb σ H (.str s)) (e : valV kvs (.inr s) = some v) : Ev (tDGet ta tb) σ H v := fun H1 e1 Q q =>
  h H1 e1 _ fun p H2 _ e2 h2 => hk H2 (e1.trans e2) _ fun H3 e3 => ⟨p, v, rfl, by rw [← e]; exact DGet.k (k := .inr s) (e3 _ _ h2), q H3 (e2.trans e3)⟩
end
/-! bits by letter -/
def bitStep (i p : Nat) (v : Int) (k : Nat) : Int := Builtin.bitOr v (Builtin.bitAnd ((p : Int) / 2 ^ ((k : Nat) : Int).toNat) 1 * 2 ^ (3 * (k : Int) + (2 - (i : Int))).toNat)
def bitLoop (i p : Nat) : Nat → Int
  | 0 => 0
  | k + 1 => bitStep i p (bitLoop i p k) k
theorem loop_bits : ∀ i : Nat, i < 3 → ∀ p : Nat, p < 8 → bitLoop i p 3 = (bitsN p (wtN i) : Nat) := by
  have h : ((List.range 3).all fun i => (List.range 8).all fun p => decide (bitLoop i p 3 = (bitsN p (wtN i) : Nat))) = true := by decide +kernel
  exact fun i hi p hp => of_decide_eq_true (all_nat (all_nat h i hi) p hp)
theorem step_ok : ∀ i : Nat, i < 3 → ∀ p : Nat, p < 8 → ∀ k : Nat, k < 3 → (Builtin.bitAnd ((p : Int) / 2 ^ ((k : Nat) : Int).toNat) 1).natAbs < 2 ^ 64 := by
  have h : ((List.range 8).all fun p => (List.range 3).all fun k => decide ((Builtin.bitAnd ((p : Int) / 2 ^ ((k : Nat) : Int).toNat) 1).natAbs < 2 ^ 64)) = true := by decide +kernel
  exact fun i hi p hp k hk => of_decide_eq_true (all_nat (all_nat h p hp) k hk)
theorem must_law : ∀ i : Nat, i < 3 → ∀ p : Nat, p < 8 → ∀ m : Nat, m < 512 → decide (Builtin.bitAnd (bitsN p (wtN i) : Nat) (m : Int) = Builtin.bitAnd (m : Int) (73 * 2 ^ ((2 : Int) - (i : Int)).toNat)) = decide (Builtin.bitAnd (p : Int) (patN m (wtN i) : Nat) = (patN m (wtN i) : Nat)) := by
  have h : ((List.range 3).all fun i => (List.range 8).all fun p => (List.range 512).all fun m => decide (Builtin.bitAnd (bitsN p (wtN i) : Nat) (m : Int) = Builtin.bitAnd (m : Int) (73 * 2 ^ ((2 : Int) - (i : Int)).toNat)) == decide (Builtin.bitAnd (p : Int) (patN m (wtN i) : Nat) = (patN m (wtN i) : Nat))) = true := by decide +kernel
  exact fun i hi p hp m hm => beq_iff_eq.mp (all_nat (all_nat (all_nat h i hi) p hp) m hm)
theorem never_law : ∀ i : Nat, i < 3 → ∀ p : Nat, p < 8 → ∀ m : Nat, m < 512 → decide (Builtin.bitAnd (bitsN p (wtN i) : Nat) (m : Int) = 0) = decide (Builtin.bitAnd (p : Int) (patN m (wtN i) : Nat) = 0) := by
  have h : ((List.range 3).all fun i => (List.range 8).all fun p => (List.range 512).all fun m => decide (Builtin.bitAnd (bitsN p (wtN i) : Nat) (m : Int) = 0) == decide (Builtin.bitAnd (p : Int) (patN m (wtN i) : Nat) = 0)) = true := by decide +kernel
  exact fun i hi p hp m hm => beq_iff_eq.mp (all_nat (all_nat (all_nat h i hi) p hp) m hm)
section
variable {P : Program} {w : World} {K : PySem.W.Frag} {mg : Str → Option Value} {base : Heap} {a : Ads}
theorem ok_made (T : Txt w K mg a) : FnOk P w K mg base CX0 9 a.f__law_line_made a.d__law_line_made ["_law_told"] (spMade a) := by
  have G_Line_init : FnOk P w K mg base CX0 7 _ _ _ _ := ok_Line_init T
  obtain ⟨ds, vl5, bl5⟩ := bd_Line5 T
  refine T.fn__law_line_made.ok sc__law_line_made (fun vs H Q E h => ?_) (fun cdv A outer st H vs Q E hr h => ?_)
  · obtain ⟨_, _, rfl, _⟩ := h
    rfl
  · obtain ⟨t, L, rfl, ⟨v1, v2, ht, t1, t2⟩, ok, k⟩ := h
    have hrm : Room (7 + 1) _ := hr
    refine ⟨_, (pss_cons (ps_asg (pv 0) (pg_tup rfl (pgs_cons (pg_name (i := 1) sc__law_line_made.nd rfl (Or.inl rfl)) (pgs_cons (pg_name (i := 2) sc__law_line_made.nd rfl (Or.inl rfl)) (pgs_cons (pg_name (i := 3) sc__law_line_made.nd rfl (Or.inl rfl)) (pgs_cons (pg_name (i := 4) sc__law_line_made.nd rfl (Or.inl rfl)) (pgs_cons (pg_name (i := 5) sc__law_line_made.nd rfl (Or.inl rfl)) pgs_nil)))))))
    (pss_one (ps_ret (pe_make T.mk_Line G_Line_init hrm rfl T.mg_Line bl5 vl5 pass0 (pa_cons (pv 1) (pa_cons (pv 2) (pa_cons (pv 3) (pa_cons (pv 4) (pa_cons (pv 5) pa_nil))))))))), ?_⟩
    refine q_asgTV (ev_var rfl) (st_of ht) rfl fun H1 e1 => ⟨_, _, rfl, _, _, rfl, _, _, rfl, _, _, rfl, _, _, rfl, rfl, ?_⟩
    refine ret_raw (em_line (a := a) (L := L) (ea_cons (ev_var rfl) (ea_cons (ev_var rfl) (ea_cons (ev_var rfl) (ea_cons (ev_var rfl) (ea_cons (ev_var rfl) ea_nil))))) rfl (t1.mono e1) (t2.mono e1) ok H1 (Ex.refl _) _ fun b H2 hb e2 mb => k b H2 (fresh_back e1 hb) (e1.trans e2) mb)
theorem ok_llets (T : Txt w K mg a) : FnOk P w K mg base CX0 1 a.f__law_lets a.d__law_lets ["_law_told", "_law_sort", "_law_number", "_law_holder", "_law_team"] spLLets := by
  refine T.fn__law_lets.ok sc__law_lets (fun vs H Q E h => ?_) (fun cdv A outer st H vs Q E hr h => ?_)
  · obtain ⟨_, _, _, _, _, _, rfl, _⟩ := h
    rfl
  · obtain ⟨t, L, f, o, g, n, rfl, ⟨v1, v2, ht, t1, t2⟩, k⟩ := h
    refine ⟨_, (pss_cons (ps_if (PW.pt (pw_or (pt_cmpR op_ne (pe_ix ix_tup (pv 0) pe_int (fun _ _ => rfl)) (pv 1) (nomark _)) (pw_or1 (PW.pt (pw_and (pt_cmpR op_notN (pe_ix ix_tup (pv 0) pe_int (fun _ _ => rfl)) pe_non (nomark _)) (pw_and1 (pt_cmpR op_notIn_seq (pv 3) (pe_ix ix_tup (pv 0) pe_int (fun _ _ => rfl)) (by rfl)))))))) (pss_one (ps_ret pe_bl)) pss_nil)
    (pss_cons (ps_if (PW.pt (pw_and (pt_cmpR op_notN (pe_ix ix_tup (pv 0) pe_int (fun _ _ => rfl)) pe_non (nomark _)) (pw_and1 (pt_cmpR op_notIn_seq (pv 4) (pe_ix ix_tup (pv 0) pe_int (fun _ _ => rfl)) (by rfl))))) (pss_one (ps_ret pe_bl)) pss_nil)
    (pss_one (ps_ret (pe_and (pe_cmpR op_eq (pe_op op_and (pv 2) (pe_ix ix_tup (pv 0) pe_int (fun _ _ => rfl))) (pe_ix ix_tup (pv 0) pe_int (fun _ _ => rfl)) (nomark _)) (pe_one (pe_cmpR op_eq (pe_op op_and (pv 2) (pe_ix ix_tup (pv 0) pe_int (fun _ _ => rfl))) pe_int (nomark _)))))))), ?_⟩
    have ix : ∀ {σ : L2.St} {H1 : Hp} (i : Nat) (x : V), σ[0]? = some (some (.ref t)) → Ex H H1 → [V.str L.form, v1, v2, .int (L.must : Nat), .int (L.never : Nat)][i]? = some x → Ev (tOp (rIxT K) (tVar 0) (tC (.int (i : Nat)))) σ H1 x := fun i x hs e hx => ev_ixt (K := K) (ev_var hs) (e _ _ ht) hx
    refine q_when (b := !(decide (f = L.form) && namesB L.o1 o)) (et_is (et_or (a := !decide (f = L.form)) (b := !namesB L.o1 o) (et_is (et_test (ev_op (ix 0 _ rfl (Ex.refl _) rfl) (ev_var rfl) (rv_ne rfl))) (congrArg (!·) (decide_eq_decide.mpr ⟨fun z => by injection z with z; exact z.symm, fun z => by rw [z]⟩))) fun _ => et_nonamed (K := K) (fun H1 e1 => ix 1 _ rfl e1 rfl) t1 (ev_var rfl)) (by cases decide (f = L.form) <;> rfl)) (fun hb H1 e1 => ?_) (fun hb1 H1 e1 => ?_)
    · refine s_ret (v := .bl (letsB L f n o g)) (ev_is ev_c (congrArg V.bl ?_)) fun H4 e4 => k H4 (e1.trans e4)
      unfold letsB
      cases h1 : decide (f = L.form) <;> cases h2 : namesB L.o1 o <;> first | rfl | exact absurd hb (by rw [h1, h2]; decide)
    refine q_when (b := !namesB L.o2 g) (et_nonamed (K := K) (fun H2 e2 => ix 2 _ rfl (e1.trans e2) rfl) (t2.mono e1) (ev_var rfl)) (fun hb H2 e2 => ?_) (fun hb2 H2 e2 => ?_)
    · refine s_ret (v := .bl (letsB L f n o g)) (ev_is ev_c (congrArg V.bl ?_)) fun H4 e4 => k H4 ((e1.trans e2).trans e4)
      unfold letsB
      have h2 : namesB L.o2 g = false := by
        cases h2 : namesB L.o2 g with
        | true => rw [h2] at hb; cases hb
        | false => rfl
      rw [h2, Bool.and_false, Bool.and_false]
      rfl
    · have e02 := e1.trans e2
      refine s_ret (v := .bl (letsB L f n o g)) (ev_is (ev_andV (a := decide (V.int (Builtin.bitAnd (n : Int) (L.must : Int)) = V.int (L.must : Int))) (b := decide (V.int (Builtin.bitAnd (n : Int) (L.never : Int)) = V.int 0)) (ev_op (ev_op (ev_var rfl) (ix 3 _ rfl e02 rfl) rv_I0) (ix 3 _ rfl e02 rfl) (rv_eq rfl)) fun _ => ev_op (ev_op (ev_var rfl) (ix 4 _ rfl e02 rfl) rv_I0) ev_c (rv_eq rfl)) (congrArg V.bl ?_)) fun H4 e4 => k H4 (e02.trans e4)
      unfold letsB
      rw [ei, ei]
      cases h1 : decide (f = L.form) <;> cases h2 : namesB L.o1 o <;> cases h3 : namesB L.o2 g <;> first | rfl | exact absurd hb2 (by rw [h3]; decide) | exact absurd hb1 (by rw [h1, h2]; decide)
theorem ok_lpats (T : Txt w K mg a) : FnOk P w K mg base CX0 1 a.f__law_patterns a.d__law_patterns ["_law_told", "_law_letter_so"] spLPats := by
  refine T.fn__law_patterns.ok sc__law_patterns (fun vs H Q E h => ?_) (fun cdv A outer st H vs Q E hr h => ?_)
  · obtain ⟨_, _, _, rfl, _⟩ := h
    rfl
  · obtain ⟨t, L, i, rfl, ⟨v1, v2, ht, t1, t2⟩, ok, hi, k⟩ := h
    have hu := hu_of hr
    refine ⟨_, (pss_cons (ps_set (i := 2) sc__law_patterns.nd rfl (Or.inl rfl) (pe_dget hu (pe_disp (pps_cons pe_str pe_int (pps_cons pe_str pe_int (pps_cons pe_str pe_int pps_nil))) (by rfl) (by rfl) (fun z => by cases z) (by decide)) (pv 1) (fun _ _ => rfl)))
    (pss_cons (ps_set (i := 3) sc__law_patterns.nd rfl (Or.inl rfl) (pe_lst pa_nil))
    (pss_cons (ps_for PassesOwn.never rfl (pi_range1 rfl T.b_range (pa_cons pe_int pa_nil)) (pg_name (i := 4) sc__law_patterns.nd rfl (Or.inl rfl)) (pss_cons (ps_set (i := 5) sc__law_patterns.nd rfl (Or.inl rfl) pe_int)
    (pss_cons (ps_for PassesOwn.never rfl (pi_range1 rfl T.b_range (pa_cons pe_int pa_nil)) (pg_name (i := 6) sc__law_patterns.nd rfl (Or.inl rfl)) (pss_one (ps_set (i := 5) sc__law_patterns.nd rfl (Or.inl rfl) (pe_op op_or (pv 5) (pe_op op_shl (pe_op op_and (pe_op op_shr (pv 4) (pv 6)) pe_int) (pe_op op_add (pe_op op_mul pe_int (pv 6)) (pv 2)))))))
    (pss_cons (ps_set (i := 7) sc__law_patterns.nd rfl (Or.inl rfl) (pe_op op_shl pe_int (pv 2)))
    (pss_one (ps_if (PW.pt (pw_and (pt_cmpR op_eq (pe_op op_and (pv 5) (pe_ix ix_tup (pv 0) pe_int (fun _ _ => rfl))) (pe_op op_and (pe_ix ix_tup (pv 0) pe_int (fun _ _ => rfl)) (pv 7)) (nomark _)) (pw_and1 (pt_cmpR op_eq (pe_op op_and (pv 5) (pe_ix ix_tup (pv 0) pe_int (fun _ _ => rfl))) pe_int (nomark _))))) (pss_one (ps_expr (pe_bm PySem.F.plainAttrs_list PySem.F.slot_list_append PySem.F.type_list_append mt_append (pv 3) (pa_cons (pv 4) pa_nil)))) pss_nil))))))
    (pss_one (ps_ret (pv 3)))))), ?_⟩
    have ix : ∀ {σ : L2.St} {H1 : Hp} (i : Nat) (x : V), σ[0]? = some (some (.ref t)) → Ex H H1 → [V.str L.form, v1, v2, .int (L.must : Nat), .int (L.never : Nat)][i]? = some x → Ev (tOp (rIxT K) (tVar 0) (tC (.int (i : Nat)))) σ H1 x := fun i x hs e hx => ev_ixt (K := K) (ev_var hs) (e _ _ ht) hx
    refine q_asg (v := .int ((2 : Int) - (i : Int))) (ev_dgetN (s := letS i) (ed_disp3 (s1 := "r") (s2 := "w") (s3 := "x") (x := .int 2) (y := .int 1) (z := .int 0) ev_c ev_c ev_c ev_c ev_c ev_c (by decide) (by decide) (by decide)) (ev_var rfl) ?_) fun H1 e1 => ?_
    · match i, hi with
      | 0, _ => rfl
      | 1, _ => rfl
      | 2, _ => rfl
    refine q_asgL (xs := []) (el_lst ea_nil (by decide)) fun q H2 hq e2 h2 => ?_
    have e02 := e1.trans e2
    have hq0 := fresh_back e1 hq
    refine q_forR1 (n := 8) (ea_cons ev_c ea_nil) (by decide) (fun j σ' H' => ∃ o4 o5 o6 o7, σ' = [some (.ref t), some (.str (letS i)), some (.int ((2 : Int) - (i : Int))), some (.ref q), o4, o5, o6, o7] ∧ Ex H H' ∧ H' q = some (.lst (((List.range j).filter (patB L i)).map fun p => V.int (p : Nat)))) (fun H3 e3 => ⟨_, _, _, _, rfl, e02.trans e3, e3 _ _ h2⟩) (fun j σ' H3 hj qq => ?_) (fun σ' H3 qq => ?_)
    · obtain ⟨o4, o5, o6, o7, rfl, e3, h3⟩ := qq
      have hj8 : j < 8 := by omega
      refine q_asg (v := .int (bitLoop i j 0)) ev_c fun H4 e4 => ?_
      refine q_forR1 (n := 3) (ea_cons ev_c ea_nil) (by decide) (fun m σ' H' => ∃ o6, σ' = [some (.ref t), some (.str (letS i)), some (.int ((2 : Int) - (i : Int))), some (.ref q), some (.int (j : Nat)), some (.int (bitLoop i j m)), o6, o7] ∧ Ex H3 H') (fun H5 e5 => ⟨_, rfl, e4.trans e5⟩) (fun m σ' H5 hm qq => ?_) (fun σ' H5 qq => ?_)
      · obtain ⟨o6, rfl, e5⟩ := qq
        have hm3 : m < 3 := by omega
        refine s_asg (v := .int (bitLoop i j (m + 1))) (ev_op (ev_var rfl) (ev_op (ev_op (ev_op (ev_var rfl) (ev_var rfl) (rv_I (by omega))) ev_c rv_I0) (ev_op (ev_op ev_c (ev_var rfl) (rv_I (.inl ⟨by decide, by decide⟩))) (ev_var rfl) rv_I0) (rv_I ⟨by omega, by omega, step_ok i hi j hj8 m hm3⟩)) rv_I0) fun H6 e6 => ⟨_, rfl, e5.trans e6⟩
      · obtain ⟨o6, rfl, e5⟩ := qq
        refine q_asg (v := .int (73 * 2 ^ ((2 : Int) - (i : Int)).toNat)) (ev_op ev_c (ev_var rfl) (rv_I ⟨by omega, by omega, by decide⟩)) fun H6 e6 => ?_
        have e36 := e5.trans e6
        have e06 := e3.trans e36
        have lb : bitLoop i j (3 : Int).toNat = (bitsN j (wtN i) : Nat) := loop_bits i hi j hj8
        refine s_if (b := patB L i j) (et_is (et_and (a := decide (V.int (Builtin.bitAnd (bitLoop i j (3 : Int).toNat) (L.must : Int)) = V.int (Builtin.bitAnd (L.must : Int) (73 * 2 ^ ((2 : Int) - (i : Int)).toNat)))) (b := decide (V.int (Builtin.bitAnd (bitLoop i j (3 : Int).toNat) (L.never : Int)) = V.int 0)) (et_test (ev_op (ev_op (ev_var rfl) (ix 3 _ rfl e06 rfl) rv_I0) (ev_op (ix 3 _ rfl e06 rfl) (ev_var rfl) rv_I0) (rv_eq rfl))) fun _ => et_test (ev_op (ev_op (ev_var rfl) (ix 4 _ rfl e06 rfl) rv_I0) ev_c (rv_eq rfl))) ?_) (fun hb H7 e7 => ?_) (fun hb H7 e7 => ?_)
        · rw [ei, ei, lb, must_law i hi j hj8 L.must ok.must, never_law i hi j hj8 L.never ok.never]
          rfl
        · have h7 := (e36.trans e7) _ _ h3
          refine s_app1 (K := K) (j := 3) (l := q) rfl h7 (ev_raw (ev_var rfl) fun H8 e8 => ⟨q, _, _, rfl, rfl, e8 _ _ h7, ?_, _, _, _, _, rfl, ?_, ?_⟩)
          · rw [List.length_map]
            exact Nat.lt_of_le_of_lt (List.length_filter_le _ _) (by rw [List.length_range]; exact Nat.lt_trans hj8 (by decide))
          · exact fun b o hb2 => by
              rw [upd_ne (ne_of_none hb2 hq0)]
              exact ((e06.trans e7).trans e8) _ _ hb2
          · rw [upd_same, List.range_succ, List.filter_append, List.filter_cons, if_pos hb, List.map_append]
            rfl
        · exact ⟨_, _, _, _, rfl, e06.trans e7, by rw [List.range_succ, List.filter_append, List.filter_cons, if_neg (by rw [hb]; decide), List.filter_nil, List.append_nil]; exact (e36.trans e7) _ _ h3⟩
    · obtain ⟨o4, o5, o6, o7, rfl, e3, h3⟩ := qq
      exact s_ret (v := .ref q) (ev_var rfl) fun H4 e4 => k q H4 hq0 (e3.trans e4) (e4 _ _ h3)
end
end KG
set_option Elab.async false
set_option linter.all false
set_option maxRecDepth 100000
set_option maxHeartbeats 4000000
namespace KG
open PySem PySem.Spec PyProof.Rows L2 Evl KF
local macro_rules | `(tactic| walk_at "ev") => `(tactic| repeat' (first | exact ev_c | exact ev_var rfl | exact rv_I0 | refine' rv_I ?_ | refine' rv_eq ?_ | refine' rv_ne ?_ | refine' ev_op ?_ ?_ ?_ | exact ea_nil | refine' ea_cons ?_ ?_ | refine' et_test ?_ | refine' et_B ?_ | refine' et_not ?_ | refine' ev_notV ?_))

open PySem
/-! ### letters apart, letters together -/
def mk3 (i : Nat) : Nat := 73 * 2 ^ (2 - i)
theorem mk_is : ∀ i : Nat, i < 3 → (73 * 2 ^ ((2 : Int) - (i : Int)).toNat : Int) = (mk3 i : Nat) := by decide
theorem bits_mask : ∀ i : Nat, i < 3 → ∀ n : Nat, n < 512 → bitsN (patN n (wtN i)) (wtN i) = n &&& mk3 i := by
  have h : ((List.range 3).all fun i => (List.range 512).all fun n => decide (bitsN (patN n (wtN i)) (wtN i) = n &&& mk3 i)) = true := by decide +kernel
  exact fun i hi n hn => of_decide_eq_true (all_nat (all_nat h i hi) n hn)
theorem pat_lt : ∀ i : Nat, i < 3 → ∀ n : Nat, n < 512 → patN n (wtN i) < 8 := by
  have h : ((List.range 3).all fun i => (List.range 512).all fun n => decide (patN n (wtN i) < 8)) = true := by decide +kernel
  exact fun i hi n hn => of_decide_eq_true (all_nat (all_nat h i hi) n hn)
theorem with_at : ∀ i : Nat, i < 3 → ∀ c : Nat, c < 8 → ∀ n : Nat, n < 512 → patN (wN n i c) (wtN i) = c := by
  have h : ((List.range 3).all fun (i : Nat) => (List.range 8).all fun (c : Nat) => (List.range 512).all fun (n : Nat) => decide (patN (wN n i c) (wtN i) = c)) = true := by decide +kernel
  exact fun i hi c hc n hn => of_decide_eq_true (all_nat (all_nat (all_nat h i hi) c hc) n hn)
theorem other_law : ∀ i : Nat, i < 3 → ∀ j : Nat, j < 3 → i ≠ j → ∀ c : Nat, c < 8 → ∀ n : Nat, n < 512 → patN (wN n i c) (wtN j) = patN n (wtN j) := by
  have h : ((List.range 3).all fun (i : Nat) => (List.range 3).all fun (j : Nat) => decide (i = j) || (List.range 8).all fun (c : Nat) => (List.range 512).all fun (n : Nat) => decide (patN (wN n i c) (wtN j) = patN n (wtN j))) = true := by decide +kernel
  intro i hi j hj ne c hc n hn
  have := all_nat (all_nat h i hi) j hj
  rw [decide_eq_false ne, Bool.false_or] at this
  exact of_decide_eq_true (all_nat (all_nat this c hc) n hn)
theorem all_and {x : Nat} (h : x < 512) : x = ((x &&& mk3 0) ||| (x &&& mk3 1)) ||| (x &&& mk3 2) := by
  have : ∀ x : Nat, x < 512 → x = ((x &&& mk3 0) ||| (x &&& mk3 1)) ||| (x &&& mk3 2) := by
    have h : ((List.range 512).all fun x => decide (x = ((x &&& mk3 0) ||| (x &&& mk3 1)) ||| (x &&& mk3 2))) = true := by decide +kernel
    exact fun x hx => of_decide_eq_true (all_nat h x hx)
  exact this x h
theorem and_lt9 {x y : Nat} (h : x < 512) : x &&& y < 512 := Nat.lt_of_le_of_lt Nat.and_le_left h
theorem castI {x y : Nat} (h : (x : Int) = (y : Int)) : x = y := Int.ofNat.inj h
theorem must_part {L : Ln} (ok : LnOk L) {i N : Nat} (hi : i < 3) (hN : N < 512) (h : patB L i (patN N (wtN i)) = true) : (N &&& L.must) &&& mk3 i = L.must &&& mk3 i ∧ (N &&& L.never) &&& mk3 i = 0 := by
  unfold patB at h
  obtain ⟨h1, h2⟩ := Bool.and_eq_true_iff.mp h
  rw [← must_law i hi _ (pat_lt i hi N hN) L.must ok.must, mk_is i hi, bits_mask i hi N hN, and_cast, and_cast] at h1
  rw [← never_law i hi _ (pat_lt i hi N hN) L.never ok.never, bits_mask i hi N hN, and_cast] at h2
  have h1 := castI (of_decide_eq_true h1)
  have h2 : ((N &&& mk3 i &&& L.never : Nat) : Int) = ((0 : Nat) : Int) := of_decide_eq_true h2
  have h2 := castI h2
  refine ⟨?_, ?_⟩
  · rw [← h1, Nat.and_assoc, Nat.and_comm L.must, ← Nat.and_assoc]
  · rw [← h2, Nat.and_assoc, Nat.and_comm L.never, ← Nat.and_assoc]
theorem lets_all {L : Ln} (ok : LnOk L) {N : Nat} (hN : N < 512) (h : ∀ i, i < 3 → patB L i (patN N (wtN i)) = true) {o g : Str} (ho : namesB L.o1 o = true) (hg : namesB L.o2 g = true) : letsB L L.form N o g = true := by
  have m0 := must_part ok (by decide) hN (h 0 (by decide))
  have m1 := must_part ok (by decide) hN (h 1 (by decide))
  have m2 := must_part ok (by decide) hN (h 2 (by decide))
  have e1 : N &&& L.must = L.must := by
    rw [all_and (and_lt9 (y := L.must) hN), m0.1, m1.1, m2.1, ← all_and ok.must]
  have e2 : N &&& L.never = 0 := by
    rw [all_and (and_lt9 (y := L.never) hN), m0.2, m1.2, m2.2]
    rfl
  unfold letsB
  rw [ho, hg, and_cast, and_cast, e1, e2, decide_eq_true rfl, decide_eq_true rfl]
  rfl
theorem pat_some {L : Ln} (ok : LnOk L) {i : Nat} (hi : i < 3) : ∃ c, c < 8 ∧ patB L i c = true := by
  refine ⟨patN L.must (wtN i), pat_lt i hi _ ok.must, ?_⟩
  unfold patB
  rw [← never_law i hi _ (pat_lt i hi _ ok.must) L.never ok.never, bits_mask i hi _ ok.must, and_cast, and_cast, Nat.and_self, decide_eq_true rfl, Bool.true_and]
  refine decide_eq_true ?_
  have h := ok.apart
  rw [and_cast] at h
  have h : L.must &&& L.never = 0 := castI h
  rw [Nat.and_assoc, Nat.and_comm (mk3 i), ← Nat.and_assoc, h, Nat.zero_and]
  rfl
theorem given_mem {n c : Nat} {f : Nat → Bool} {x : V} (h : x ∈ given n f fun p => V.int (p : Nat)) : ∃ c, c < n ∧ f c = true ∧ x = .int (c : Nat) := by
  unfold given at h
  obtain ⟨c, hc, rfl⟩ := List.mem_map.mp h
  obtain ⟨h1, h2⟩ := List.mem_filter.mp hc
  exact ⟨c, List.mem_range.mp h1, h2, rfl⟩
theorem given_pos {n c : Nat} {f : Nat → Bool} (hc : c < n) (h : f c = true) : 0 < (given n f fun p => V.int (p : Nat)).length := by
  unfold given
  rw [List.length_map]
  exact List.length_pos_of_mem (List.mem_filter.mpr ⟨List.mem_range.mpr hc, h⟩)
theorem given_le {n : Nat} {f : Nat → Bool} {v : Nat → V} : (given n f v).length ≤ n := by
  unfold given
  rw [List.length_map]
  exact Nat.le_trans (List.length_filter_le _ _) (by rw [List.length_range]; exact Nat.le_refl _)
theorem given_ints {n : Nat} {f : Nat → Bool} : (given n f fun p => V.int (p : Nat)) = (((List.range n).filter f).map fun p => ((p : Nat) : Int)).map V.int := by
  unfold given
  rw [List.map_map]
  rfl
theorem eqv_intsAll : ∀ a b : List Int, PyData.eqvAll (a.map PyData.int) (b.map PyData.int) = decide (a = b)
  | [], [] => by simp [PyData.eqvAll]
  | [], _ :: _ => by simp [PyData.eqvAll]
  | _ :: _, [] => by simp [PyData.eqvAll]
  | x :: xs, y :: ys => by
    simp only [List.map_cons, PyData.eqvAll, eqv_intsAll xs ys, PyData.eqv]
    by_cases h : x = y <;> simp [h]
theorem rv_neI {K : PySem.W.Frag} {H : Hp} {b c : Addr} {ns : List Int} (h1 : H b = some (.lst (ns.map V.int))) (h2 : H c = some (.lst (ns.map V.int))) : RV (rNeD K) (.ref b) (.ref c) H (.bl false) := fun H1 e Q k =>
  ⟨.list (ns.map PyData.int), .list (ns.map PyData.int), .lst (sq_of (e _ _ h1)) (dp_ints ns), .lst (sq_of (e _ _ h2)) (dp_ints ns), PySem.W.ke_shaped_ints ns, PySem.W.ke_shaped_ints ns, by
    rw [show PyData.eqv (.list (ns.map PyData.int)) (.list (ns.map PyData.int)) = PyData.eqvAll (ns.map PyData.int) (ns.map PyData.int) by simp [PyData.eqv], eqv_intsAll, decide_eq_true rfl]
    exact k H1 (Ex.refl H1)⟩
theorem rv_eqI {K : PySem.W.Frag} {H : Hp} {b c : Addr} {ns : List Int} (h1 : H b = some (.lst (ns.map V.int))) (h2 : H c = some (.lst (ns.map V.int))) : RV (rEqD K) (.ref b) (.ref c) H (.bl true) := fun H1 e Q k =>
  ⟨.list (ns.map PyData.int), .list (ns.map PyData.int), .lst (sq_of (e _ _ h1)) (dp_ints ns), .lst (sq_of (e _ _ h2)) (dp_ints ns), PySem.W.ke_shaped_ints ns, PySem.W.ke_shaped_ints ns, by
    rw [show PyData.eqv (.list (ns.map PyData.int)) (.list (ns.map PyData.int)) = PyData.eqvAll (ns.map PyData.int) (ns.map PyData.int) by simp [PyData.eqv], eqv_intsAll, decide_eq_true rfl]
    exact k H1 (Ex.refl H1)⟩
theorem xor_small {m d : Nat} (hm : m < 512) (hd : d < 9) : Builtin.bitXor (m : Int) ((2 ^ d : Nat) : Int) = ((m ^^^ 2 ^ d : Nat) : Int) ∧ m ^^^ 2 ^ d < 512 := by
  have h2 : 2 ^ d < 2 ^ 9 := Nat.pow_lt_pow_right (by decide) hd
  refine ⟨?_, Nat.xor_lt_two_pow (show m < 2 ^ 9 from hm) h2⟩
  rw [Bits.bitXor_pp (Int.natCast_nonneg _) (Int.natCast_nonneg _)]
  rfl
end KG
set_option Elab.async false
set_option linter.all false
set_option maxRecDepth 100000
set_option maxHeartbeats 4000000
namespace KG
open PySem PySem.Spec PyProof.Rows L2 Evl KF
local macro_rules | `(tactic| walk_at "ev") => `(tactic| repeat' (first | exact ev_c | exact ev_var rfl | exact rv_I0 | refine' rv_I ?_ | refine' rv_eq ?_ | refine' rv_ne ?_ | refine' ev_op ?_ ?_ ?_ | exact ea_nil | refine' ea_cons ?_ ?_ | refine' et_test ?_ | refine' et_B ?_ | refine' et_not ?_ | refine' ev_notV ?_))

open PySem
/-- what the law stands on -/
structure Sit (a : Ads) (H : Hp) (t b ln : Addr) (L : Ln) (ns : List Str) : Prop where
  tell : TellAt H t L
  line : LineAt a H b L
  names : H ln = some (.lst (ns.map V.str))
theorem Sit.mono {a : Ads} {H H' : Hp} {t b ln : Addr} {L : Ln} {ns : List Str} (s : Sit a H t b ln L ns) (e : Ex H H') : Sit a H' t b ln L ns := ⟨s.tell.mono e, s.line.mono e, e _ _ s.names⟩
theorem Sit.exP {a : Ads} {H H' : Hp} {t b ln p lc : Addr} {L : Ln} {ns : List Str} {n : Nat} (s : Sit a H t b ln L ns) (pen : PenL H p lc n) (e : ExP p H H') : Sit a H' t b ln L ns := ⟨s.tell.exP pen e, s.line.exP pen e, e.ex _ _ s.names (pen.ne_strs s.names)⟩
def spRight (a : Ads) (m : Nat) : Sp := fun vs H Q _ => ∃ (p lc t b ln : Addr) (n : Nat) (L : Ln) (ns : List Str), vs = [.ref p, .ref t, .ref b, .ref ln] ∧ PenL H p lc n ∧ n + m ≤ 100000 ∧ Sit a H t b ln L ns ∧ LnOk L ∧ NamesL ns ∧ ∀ H', ExP p H H' → PenL H' p lc (n + m) → Q (.bl true) H'
def g5 (us ws : List V) : List V := match us, ws with | [x], [g, o, m, f] => [x, f, m, o, g] | _, _ => []
def g5v (us ws : List Value) : List Value := match us, ws with | [x], [g, o, m, f] => [x, f, m, o, g] | _, _ => []
theorem g5_rel {vs : List V} {us : List Value} {zs : List V} {ws : List Value} (h1 : Vals vs us) (h2 : Vals zs ws) : Vals (g5 vs zs) (g5v us ws) := by
  cases h1 with
  | nil => exact .nil
  | cons a r => cases r with
    | cons _ _ => exact .nil
    | nil => cases h2 with
      | nil => exact .nil
      | cons b r => cases r with
        | nil => exact .nil
        | cons c r => cases r with
          | nil => exact .nil
          | cons d r => cases r with
            | nil => exact .nil
            | cons e r => cases r with
              | cons _ _ => exact .nil
              | nil => exact .cons a (.cons e (.cons d (.cons c (.cons b .nil))))
def g2 (us ws : List V) : List V := match us, ws with | [x], [f] => [x, f] | _, _ => []
def g2v (us ws : List Value) : List Value := match us, ws with | [x], [f] => [x, f] | _, _ => []
theorem g2_rel {vs : List V} {us : List Value} {zs : List V} {ws : List Value} (h1 : Vals vs us) (h2 : Vals zs ws) : Vals (g2 vs zs) (g2v us ws) := by
  cases h1 with
  | nil => exact .nil
  | cons a r => cases r with
    | cons _ _ => exact .nil
    | nil => cases h2 with
      | nil => exact .nil
      | cons b r => cases r with
        | nil => exact .cons a (.cons b .nil)
        | cons _ _ => exact .nil
section
variable {w : World} {K : PySem.W.Frag} {mg : Str → Option Value} {a : Ads}
theorem kb_lets (T : Txt w K mg a) : KBinds K a.d_Line_lets ["self", "form", "mode", "owner", "group"] ["group", "owner", "mode", "form"] g5v g5 where
  to := fun s us ws X hl => by
    obtain ⟨oc, od, kV, doc, pm, an, cdv, ct, osl, e, lk, hcd⟩ := T.fn_Line_lets.ex
    rw [e]
    match us, ws, hl with
    | [x], [g, o, m, f], _ => exact .of_eq rfl
  rel := g5_rel
theorem kb_patterns (T : Txt w K mg a) : KBinds K a.d_Line_patterns ["self", "letter"] ["letter"] g2v g2 where
  to := fun s us ws X hl => by
    obtain ⟨oc, od, kV, doc, pm, an, cdv, ct, osl, e, lk, hcd⟩ := T.fn_Line_patterns.ex
    rw [e]
    match us, ws, hl with
    | [x], [f], _ => exact .of_eq rfl
  rel := g2_rel
end
section
variable {K : PySem.W.Frag} {a : Ads} {σ : L2.St} {H : Hp} {tf t1 t2 t3 t4 t5 ta tb te : TE} {tk : TA} {D : Ends} {tz tu : TS} {tt : TT} {i j n : Nat} {b p q : Addr} {L : Ln} {f o g : Str} {E : XK} {Q : VK} {x x1 x2 x3 x4 c : V} {r : R2} {xs : List V} {s : Str} {k : Int}
theorem op_rawC (h : tb σ H fun y H2 => r c y H2 Q) : tOp r (tC c) tb σ H Q := h
theorem lstP4 (h1 : Ev t1 σ H x1) (h2 : Ev t2 σ H x2) (h3 : Ev t3 σ H x3) (h4 : Ev t4 σ H x4) (k : ∀ H1, Ex H H1 → t5 σ H1 fun v H2 => [x1, x2, x3, x4, v].length ≤ sizeLine ∧ ∀ l, H2 l = none → Q (.ref l) (upd H2 l (.lst [x1, x2, x3, x4, v]))) : tLst (tCons t1 (tCons t2 (tCons t3 (tCons t4 (tCons t5 tNil))))) σ H Q :=
  h1 H (Ex.refl H) _ fun H1 e1 => h2 H1 e1 _ fun H2 e2 => h3 H2 (e1.trans e2) _ fun H3 e3 => h4 H3 ((e1.trans e2).trans e3) _ fun H4 e4 => k H4 (((e1.trans e2).trans e3).trans e4)
theorem q_ifRaw {M : L2.St → Hp → Prop} (h : (∀ σ2 H2, M σ2 H2 → tz D σ2 H2) → tt σ H fun b H1 => if b = true then tu { D with nx := tz D } σ H1 else tz D σ H1) (k : ∀ σ2 H2, M σ2 H2 → tz D σ2 H2) : tSeq (tIfS tt tu tNext) tz D σ H := h k
theorem if_raw (h1 : ∀ H1, Ex H H1 → ta σ H1 Q) (h : EvT tt σ H true) : tIf tt ta tb σ H Q := h H (Ex.refl H) _ fun H1 e1 => h1 H1 e1
theorem if_rawF (h1 : ∀ H1, Ex H H1 → tb σ H1 Q) (h : EvT tt σ H false) : tIf tt ta tb σ H Q := h H (Ex.refl H) _ fun H1 e1 => h1 H1 e1
theorem ev_lets (hf : Ev tf σ H (.ref b)) (h1 : Ev t1 σ H (.str f)) (h2 : Ev t2 σ H (.int (n : Nat))) (h3 : Ev t3 σ H (.str o)) (h4 : Ev t4 σ H (.str g)) (mb : LineAt a H b L) (hn : n < 512) : Ev (tMeth a.f_Line "lets" (spLets a) [] E tf (tCons t1 (tCons t2 (tCons t3 (tCons t4 tNil))))) σ H (.bl (letsB L f n o g)) := by
  obtain ⟨dx, v1, v2, m1, m2, hb, _⟩ := id mb
  exact ev_meth hf (ea_cons h1 (ea_cons h2 (ea_cons h3 (ea_cons h4 ea_nil)))) hb (fs_no _ _ _ _ _).2.1 fun H1 e Q q E => ⟨b, L, f, o, g, _, n, rfl, mb.mono e, hn, .inl rfl, q⟩
theorem ev_letsR {m : Addr} (hf : Ev tf σ H (.ref b)) (h1 : Ev t1 σ H (.str f)) (h2 : Ev t2 σ H (.ref m)) (h3 : Ev t3 σ H (.str o)) (h4 : Ev t4 σ H (.str g)) (mb : LineAt a H b L) (hm : ModeAt a H m n) (hn : n < 512) : Ev (tMeth a.f_Line "lets" (spLets a) [] E tf (tCons t1 (tCons t2 (tCons t3 (tCons t4 tNil))))) σ H (.bl (letsB L f n o g)) := by
  obtain ⟨dx, v1, v2, m1, m2, hb, _⟩ := id mb
  exact ev_meth hf (ea_cons h1 (ea_cons h2 (ea_cons h3 (ea_cons h4 ea_nil)))) hb (fs_no _ _ _ _ _).2.1 fun H1 e Q q E => ⟨b, L, f, o, g, _, n, rfl, mb.mono e, hn, .inr ⟨m, rfl, hm.mono e⟩, q⟩
theorem ev_letsM (hf : Ev tf σ H (.ref b)) (h1 : Ev t1 σ H (.str f)) (h2 : EvM a t2 σ H n) (h3 : Ev t3 σ H (.str o)) (h4 : Ev t4 σ H (.str g)) (mb : LineAt a H b L) (hn : n < 512) : Ev (tMeth a.f_Line "lets" (spLets a) [] E tf (tCons t1 (tCons t2 (tCons t3 (tCons t4 tNil))))) σ H (.bl (letsB L f n o g)) := fun H1 e Q q => by
  obtain ⟨dx, v1, v2, m1, m2, hb, _⟩ := id mb
  exact hf H1 e _ fun H2 e2 => ⟨b, dx, _, rfl, (e.trans e2) _ _ hb, (fs_no _ _ _ _ _).2.1, h1 H2 (e.trans e2) _ fun H3 e3 => h2 H3 ((e.trans e2).trans e3) _ fun p H4 _ e4 m => h3 H4 (((e.trans e2).trans e3).trans e4) _ fun H5 e5 => h4 H5 ((((e.trans e2).trans e3).trans e4).trans e5) _ fun H6 e6 =>
    ⟨b, L, f, o, g, _, n, rfl, mb.mono (((((e.trans e2).trans e3).trans e4).trans e5).trans e6), hn, .inr ⟨p, rfl, m.mono (e5.trans e6)⟩, fun H7 e7 => q H7 (((((e2.trans e3).trans e4).trans e5).trans e6).trans e7)⟩⟩
theorem ev_letsK (hf : Ev tf σ H (.ref b)) (hk : EvA tk σ H [.str g, .str o, .int (n : Nat), .str f]) (mb : LineAt a H b L) (hn : n < 512) : Ev (tMethK a.f_Line "lets" (spLets a) g5 E tf tk) σ H (.bl (letsB L f n o g)) := fun H1 e Q q => by
  obtain ⟨dx, v1, v2, m1, m2, hb, _⟩ := id mb
  exact hf H1 e _ fun H2 e2 => ⟨b, dx, _, rfl, (e.trans e2) _ _ hb, (fs_no _ _ _ _ _).2.1, hk H2 (e.trans e2) _ fun H3 e3 => ⟨b, L, f, o, g, _, n, rfl, mb.mono ((e.trans e2).trans e3), hn, .inl rfl, fun H4 e4 => q H4 ((e2.trans e3).trans e4)⟩⟩
theorem ev_reprL (h : EvL te σ H xs) (r : ∀ p H', H' p = some (.lst xs) → Ex H H' → KD.RepV K H' (.ref p) s) : Ev (tCB (KD.rReprV K) (tCons te tNil)) σ H (.str s) := fun H1 e Q q => h H1 e _ fun p H2 _ e2 h2 => ⟨.ref p, s, rfl, r p H2 h2 (e.trans e2), q H2 e2⟩
theorem ev_reprO (h : Ev te σ H (.ref q)) (hq : H q = some (.lst xs)) (r : ∀ p H', H' p = some (.lst xs) → KD.RepV K H' (.ref p) s) : Ev (tCB (KD.rReprV K) (tCons te tNil)) σ H (.str s) := fun H1 e Q k => h H1 e _ fun H2 e2 => ⟨.ref q, s, rfl, r q H2 ((e.trans e2) _ _ hq), k H2 e2⟩
theorem el_rep (ha : EvL ta σ H xs) (hb : Ev tb σ H (.int k)) (h0 : -(2 ^ 63) ≤ k ∧ k < 2 ^ 63) (hz : xs.length * k.toNat ≤ 100000) : EvL (tOp rRep ta tb) σ H (List.replicate k.toNat xs).flatten := fun H1 e Q q =>
  ha H1 e _ fun p H2 _ e2 h2 => hb H2 (e.trans e2) _ fun H3 e3 => ⟨p, k, xs, rfl, rfl, e3 _ _ h2, h0.1, h0.2, sz_of hz, fun l hl => q l _ (fresh_back (e2.trans e3) hl) ((e2.trans e3).trans (Ex.new hl)) upd_same⟩
end
theorem asg_raw {te : TE} {σ : L2.St} {H : Hp} {D : Ends} {i : Nat} (h : te σ H fun v H1 => D.nx (σ.set i (some v)) H1) : tAsg te (gName i) D σ H := h
theorem exu {H H' : Hp} {q : Addr} {o : HO} (hq : H q = none) (e : Ex H H') : Ex H (upd H' q o) := fun c u hc => by
  rw [upd_ne (ne_of_none hc hq)]
  exact e _ _ hc
/-- v if it was told so, else a pick out of what was told -/
theorem named_raw {σ : L2.St} {H : Hp} {te : TE} {v : V} {o : Option (List Str)} {j n : Nat} {ho : Str} {p lc : Addr} {E : XK} {Q : VK} (ht : ∀ H1, Ex H H1 → Ev te σ H1 v) (t : ToldAt H v o) (ok : NamesOk o) (hj : σ[j]? = some (some (.str ho))) (h0 : σ[0]? = some (some (.ref p))) (pen : PenL H p lc n) (hn : n < 100000) (k : ∀ s H', ExP p H H' → PenL H' p lc (n + 1) → Q (.str s) H') :
    tIf (tTest (tOp (fun x y H Q => y = .non ∧ Q (.bl (decide (x = .non))) H) te (tC .non))) (tVar j) (tCall spPick [] E (tCons (tVar 0) (tCons te tNil))) σ H Q := by
  cases o with
  | none =>
    obtain rfl : v = .non := t
    exact if_raw (fun H1 e1 => ev_raw (ev_var hj) fun H2 e2 => k _ H2 (ExP.of (e1.trans e2)) ((pen.keep (e1.trans e2)).more (Nat.le_succ _))) (et_is (et_test (ev_op (ht H (Ex.refl H)) ev_c rv_isN)) rfl)
  | some xs =>
    obtain ⟨l, rfl, hl⟩ := t
    refine if_rawF (fun H1 e1 => pick_raw h0 (ev_raw (ht H1 e1) fun H2 e2 => pk_list (lc := lc) (pen.keep (e1.trans e2)) hn ((e1.trans e2) _ _ hl) ((pen.keep (e1.trans e2)).ne_strs ((e1.trans e2) _ _ hl)) (by rw [List.length_map]; exact ok.pos xs rfl) (by rw [List.length_map]; have := ok.le xs rfl; omega) fun x H3 hx e3 pen3 => ?_)) (et_is (et_test (ev_op (ht H (Ex.refl H)) ev_c rv_isN)) (decide_eq_false fun z => nomatch z))
    obtain ⟨s, _, rfl⟩ := List.mem_map.mp hx
    exact k s H3 ((ExP.of (e1.trans e2)).trans e3) pen3
def threeD (x : Bool) : PyData := .list [.bool x, .bool x, .bool x]
theorem three_fits : ∀ x : Bool, (threeD x).showable = true ∧ (threeD x).hasDict = false ∧ (threeD x).depth ≤ 60 ∧ (threeD x).shown.length ≤ 1000 := by decide +kernel
section
variable {P : Program} {w : World} {K : PySem.W.Frag} {mg : Str → Option Value} {base : Heap} {a : Ads}
theorem ok_lright (T : Txt w K mg a) : KD.FnG P w K mg base 8 a.f__law_lets_right a.d__law_lets_right ["_law_pen_here", "_law_told", "_law_line_here", "_law_names_here"] (spRight a 9) := by
  obtain ⟨oc, od, kV, doc, pm, an, cdv, ct, osl, eF, lk, hcd⟩ := T.fn__law_lets_right.ex
  rw [eF] at lk
  rw [eF]
  have G__law_draw : FnOk P w K mg base CX0 7 _ _ _ _ := (ok_draw T).mono (by decide)
  have G__law_pick : FnOk P w K mg base CX0 7 _ _ _ _ := (ok_pick T).mono (by decide)
  have G__law_lets : FnOk P w K mg base CX0 7 _ _ _ _ := (ok_llets T).mono (by decide)
  have G_Line_lets : FnOk P w K mg base CX0 7 _ _ _ _ := (ok_lets T).mono (by decide)
  have G_Mode_init : FnOk P w K mg base CX0 6 _ _ _ _ := (ok_Mode_init T).mono (by decide)
  refine KD.fnG_of lk hcd sc__law_lets_right (fun vs H Q E h => ?_) fun A outer s H vs Q E gd hr h => ?_
  · obtain ⟨_, _, _, _, _, _, _, _, rfl, _⟩ := h
    rfl
  · obtain ⟨p, lc, t, b, ln, n, L, ns, rfl, pen, hn, sit, ok, hns, k⟩ := h
    have hrc : Room 7 _ := hr
    have hrm : Room (6 + 1) _ := hr
    have hu64 := hr.units
    refine ⟨_, (show PSs (cxOf CX0 P w K mg base n__law_lets_right "_law_lets_right" (defScope s__law_lets_right) a.f__law_lets_right cdv A outer s H E).nox (defBody s__law_lets_right) _ from (pss_cons (ps_set (i := 4) sc__law_lets_right.nd rfl (Or.inl rfl) (pe_op op_shl pe_int (pe_call G__law_draw hrc rfl T.mg__law_draw T.fn__law_draw.kp (bd__law_draw T) .nil pass0 (pa_cons (pv 0) (pa_cons pe_int pa_nil)))))
    (pss_cons (ps_set (i := 5) sc__law_lets_right.nd rfl (Or.inl rfl) (pe_lst (pa_cons (pe_ix ix_tup (pv 1) pe_int (fun _ _ => rfl)) (pa_cons (pe_op op_xor (pe_ix ix_tup (pv 1) pe_int (fun _ _ => rfl)) (pv 4)) (pa_cons (pe_op op_sub pe_int (pe_ix ix_tup (pv 1) pe_int (fun _ _ => rfl))) (pa_cons (pe_op op_xor (pe_op op_sub pe_int (pe_ix ix_tup (pv 1) pe_int (fun _ _ => rfl))) (pv 4)) (pa_cons (pe_call G__law_draw hrc rfl T.mg__law_draw T.fn__law_draw.kp (bd__law_draw T) .nil pass0 (pa_cons (pv 0) (pa_cons pe_int pa_nil))) pa_nil)))))))
    (pss_cons (ps_par (i := 6) (j := 7) rfl sc__law_lets_right.nd rfl rfl (by decide) rfl rfl (pa_cons (pe_call G__law_pick hrc rfl T.mg__law_pick T.fn__law_pick.kp (bd__law_pick T) .nil pass0 (pa_cons (pv 0) (pa_cons (pv 5) pa_nil))) (pa_cons (pe_call G__law_pick hrc rfl T.mg__law_pick T.fn__law_pick.kp (bd__law_pick T) .nil pass0 (pa_cons (pv 0) (pa_cons (pe_lst (pa_cons (pe_ix ix_tup (pv 1) pe_int (fun _ _ => rfl)) (pa_cons (pe_ix ix_tup (pv 1) pe_int (fun _ _ => rfl)) (pa_cons (pe_ix ix_tup (pv 1) pe_int (fun _ _ => rfl)) (pa_cons pe_str (pa_cons pe_str pa_nil)))))) pa_nil))) pa_nil)) (by rfl))
    (pss_cons (ps_par (i := 8) (j := 9) rfl sc__law_lets_right.nd rfl rfl (by decide) rfl rfl (pa_cons (pe_call G__law_pick hrc rfl T.mg__law_pick T.fn__law_pick.kp (bd__law_pick T) .nil pass0 (pa_cons (pv 0) (pa_cons (pv 3) pa_nil))) (pa_cons (pe_call G__law_pick hrc rfl T.mg__law_pick T.fn__law_pick.kp (bd__law_pick T) .nil pass0 (pa_cons (pv 0) (pa_cons (pv 3) pa_nil))) pa_nil)) (by rfl))
    (pss_cons (ps_if (pt_cmpR op_eq (pe_call G__law_draw hrc rfl T.mg__law_draw T.fn__law_draw.kp (bd__law_draw T) .nil pass0 (pa_cons (pv 0) (pa_cons pe_int pa_nil))) pe_int (nomark _)) (pss_cons (ps_set (i := 8) sc__law_lets_right.nd rfl (Or.inl rfl) (pe_ifExp (pt_cmpR op_isN (pe_ix ix_tup (pv 1) pe_int (fun _ _ => rfl)) pe_non (nomark _)) (pv 8) (pe_call G__law_pick hrc rfl T.mg__law_pick T.fn__law_pick.kp (bd__law_pick T) .nil pass0 (pa_cons (pv 0) (pa_cons (pe_ix ix_tup (pv 1) pe_int (fun _ _ => rfl)) pa_nil)))))
    (pss_one (ps_set (i := 9) sc__law_lets_right.nd rfl (Or.inl rfl) (pe_ifExp (pt_cmpR op_isN (pe_ix ix_tup (pv 1) pe_int (fun _ _ => rfl)) pe_non (nomark _)) (pv 9) (pe_call G__law_pick hrc rfl T.mg__law_pick T.fn__law_pick.kp (bd__law_pick T) .nil pass0 (pa_cons (pv 0) (pa_cons (pe_ix ix_tup (pv 1) pe_int (fun _ _ => rfl)) pa_nil))))))) pss_nil)
    (pss_cons (ps_set (i := 10) sc__law_lets_right.nd rfl (Or.inl rfl) (pe_lst (pa_cons (pe_meth (pv 2) T.c_Line T.m_Line_lets G_Line_lets hrc (bd_Line_lets T) .nil pass0 (pa_cons (pv 7) (pa_cons (pv 6) (pa_cons (pv 8) (pa_cons (pv 9) pa_nil))))) (pa_cons (pe_meth (pv 2) T.c_Line T.m_Line_lets G_Line_lets hrc (bd_Line_lets T) .nil pass0 (pa_cons (pv 7) (pa_cons (pe_make T.mk_Mode G_Mode_init hrm rfl T.mg_Mode (bd_ModeD_initD T) .nil pass0 (pa_cons (pv 6) pa_nil)) (pa_cons (pv 8) (pa_cons (pv 9) pa_nil))))) pa_nil))))
    (pss_cons (ps_expr (pe_bm PySem.F.plainAttrs_list PySem.F.slot_list_append PySem.F.type_list_append mt_append (pv 10) (pa_cons (pe_methK (pv 2) T.c_Line T.m_Line_lets G_Line_lets hrc (kb_lets T) pass0 (pk_cons (pv 9) (pk_cons (pv 8) (pk_cons (pv 6) (pk_cons (pv 7) pk_nil))))) pa_nil)))
    (pss_one (ps_ret (pe_cmpR op_eq (pe_callB (KD.call_reprV gd hu64) (by rfl) T.b_repr PyProof.Rows.boot_repr (pa_cons (pv 10) pa_nil)) (pe_callB (KD.call_reprV gd hu64) (by rfl) T.b_repr PyProof.Rows.boot_repr (pa_cons (pe_op op_rep (pe_lst (pa_cons (pe_call G__law_lets hrc rfl T.mg__law_lets T.fn__law_lets.kp (bd__law_lets T) .nil pass0 (pa_cons (pv 1) (pa_cons (pv 7) (pa_cons (pv 6) (pa_cons (pv 8) (pa_cons (pv 9) pa_nil)))))) pa_nil)) pe_int) pa_nil)) (nomark _)))))))))))), ?_⟩
    have ix : ∀ {σ : L2.St} {H1 : Hp} {v1 v2 : V} (i : Nat) (x : V), σ[1]? = some (some (.ref t)) → H1 t = some (.tup [.str L.form, v1, v2, .int (L.must : Nat), .int (L.never : Nat)]) → [V.str L.form, v1, v2, .int (L.must : Nat), .int (L.never : Nat)][i]? = some x → Ev (tOp (rIxT K) (tVar 1) (tC (.int (i : Nat)))) σ H1 x := fun i x hs ht hx => ev_ixt (K := K) (ev_var hs) ht hx
    refine q_asgD (op_rawC (draw_r (p := p) (lc := lc) 9 rfl ev_c pen (by omega) (by decide) (by decide) fun d H1 hd e1 pen1 => ⟨_, _, rfl, rfl, ⟨by omega, by omega, by decide⟩, ?_⟩))
    have eb : (1 * 2 ^ ((d : Nat) : Int).toNat : Int) = ((2 ^ d : Nat) : Int) := by simp
    show tSeq _ _ _ [some (.ref p), some (.ref t), some (.ref b), some (.ref ln), some (.int (1 * 2 ^ ((d : Nat) : Int).toNat)), none, none, none, none, none, none] H1
    rw [eb]
    have sit1 := sit.exP pen e1
    obtain ⟨v1, v2, ht1, _, _⟩ := id sit1.tell
    have n512 : (511 : Int) - (L.never : Int) = ((511 - L.never : Nat) : Int) := by have := ok.never; omega
    have nl : 511 - L.never < 512 := by omega
    refine q_asgD (lstP4 (x1 := .int (L.must : Nat)) (x2 := .int ((L.must ^^^ 2 ^ d : Nat) : Int)) (x3 := .int ((511 - L.never : Nat) : Int)) (x4 := .int (((511 - L.never) ^^^ 2 ^ d : Nat) : Int)) (ix 3 _ rfl ht1 rfl) (ev_is (ev_op (ix 3 _ rfl ht1 rfl) (ev_var rfl) rv_I0) (congrArg V.int (xor_small ok.must hd).1)) (ev_is (ev_op ev_c (ix 4 _ rfl ht1 rfl) rv_I0) (congrArg V.int n512)) (ev_is (ev_op (ev_op ev_c (ix 4 _ rfl ht1 rfl) rv_I0) (ev_var rfl) rv_I0) (congrArg V.int (by rw [n512]; exact (xor_small nl hd).1)))
      fun H2 e2 => draw_r (p := p) (lc := lc) 512 rfl ev_c (pen1.keep e2) (by omega) (by decide) (by decide) fun d2 H3 hd2 e3 pen3 => ⟨by show 5 ≤ sizeLine; decide, fun q0 hq0 => ?_⟩)
    have en0 : Ex H3 (upd H3 q0 (.lst [.int (L.must : Nat), .int ((L.must ^^^ 2 ^ d : Nat) : Int), .int ((511 - L.never : Nat) : Int), .int (((511 - L.never) ^^^ 2 ^ d : Nat) : Int), .int (d2 : Nat)])) := Ex.new hq0
    have x13 := ((ExP.of e2).trans e3).trans (ExP.of en0)
    have sit4 := sit1.exP pen1 x13
    have pen4 := pen3.keep en0
    obtain ⟨v1, v2, ht4, _, _⟩ := id sit4.tell
    refine q_parD (pick_raw rfl (ev_raw (ev_var rfl) fun H5 e5 => pk_list (lc := lc) (pen4.keep e5) (by omega) (e5 _ _ upd_same) (pen3.pen.ne_new hq0) (by show 0 < 5; decide) (by show 5 ≤ 1000; decide) fun vm H6 hvm e6 pen6 => pick_raw rfl (el_raw (el_lst (vs := [.str L.form, .str L.form, .str L.form, .str "file", .str "folder"]) (ea_cons (ix 0 _ rfl (e6.ex _ _ (e5 _ _ ht4) ((pen4.keep e5).ne_tup (e5 _ _ ht4))) rfl) (ea_cons (ix 0 _ rfl (e6.ex _ _ (e5 _ _ ht4) ((pen4.keep e5).ne_tup (e5 _ _ ht4))) rfl) (ea_cons (ix 0 _ rfl (e6.ex _ _ (e5 _ _ ht4) ((pen4.keep e5).ne_tup (e5 _ _ ht4))) rfl) (ea_cons ev_c (ea_cons ev_c ea_nil))))) (by show 5 ≤ 100000; decide)) fun q1 H7 hq1 e7 h7 => pk_list (lc := lc) (pen6.keep e7) (by omega) h7 (pen6.pen.ne_new hq1) (by show 0 < 5; decide) (by show 5 ≤ 1000; decide) fun vf H8 hvf e8 pen8 => ⟨_, _, rfl, ?_⟩)))
    obtain ⟨m, hm, rfl⟩ : ∃ m : Nat, m < 512 ∧ vm = .int (m : Nat) := by
      simp only [List.mem_cons, List.not_mem_nil, or_false] at hvm
      rcases hvm with rfl | rfl | rfl | rfl | rfl
      · exact ⟨_, ok.must, rfl⟩
      · exact ⟨_, (xor_small ok.must hd).2, rfl⟩
      · exact ⟨_, nl, rfl⟩
      · exact ⟨_, (xor_small nl hd).2, rfl⟩
      · exact ⟨_, hd2, rfl⟩
    obtain ⟨f, rfl⟩ : ∃ f : Str, vf = .str f := by
      simp only [List.mem_cons, List.not_mem_nil, or_false] at hvf
      rcases hvf with rfl | rfl | rfl | rfl | rfl <;> exact ⟨_, rfl⟩
    have x48 := (((ExP.of e5).trans e6).trans (ExP.of e7)).trans e8
    have sit8 := sit4.exP pen4 x48
    have x08 := (e1.trans x13).trans x48
    clear hvm hvf h7 hq0 hq1 en0 ht1 ht4
    have h4 : (ns.map V.str).length = 4 := by rw [List.length_map, hns.len]
    refine q_parD (pick_raw rfl (ev_raw (ev_var rfl) fun H9 e9 => pk_list (lc := lc) (pen8.keep e9) (by omega) (sit8.mono e9).names ((pen8.keep e9).ne_strs (sit8.mono e9).names) (by omega) (by omega) fun vh H10 hvh e10 pen10 => pick_raw rfl (ev_raw (ev_var rfl) fun H11 e11 => pk_list (lc := lc) (pen10.keep e11) (by omega) (((sit8.mono e9).exP (pen8.keep e9) e10).mono e11).names ((pen10.keep e11).ne_strs (((sit8.mono e9).exP (pen8.keep e9) e10).mono e11).names) (by omega) (by omega) fun vt H12 hvt e12 pen12 => ⟨_, _, rfl, ?_⟩)))
    obtain ⟨ho, _, rfl⟩ := List.mem_map.mp hvh
    obtain ⟨te, _, rfl⟩ := List.mem_map.mp hvt
    have x812 := (((ExP.of e9).trans e10).trans (ExP.of e11)).trans e12
    have sit12 := sit8.exP pen8 x812
    have x012 := x08.trans x812
    refine q_ifRaw (M := fun σ2 H2 => ∃ ho te, σ2 = [some (.ref p), some (.ref t), some (.ref b), some (.ref ln), some (.int ((2 ^ d : Nat) : Int)), some (.ref q0), some (.int (m : Nat)), some (.str f), some (.str ho), some (.str te), none] ∧ ExP p H H2 ∧ PenL H2 p lc (n + 9)) (fun kk => draw_r (p := p) (lc := lc) 2 rfl ev_c pen12 (by omega) (by decide) (by decide) fun d3 H13 hd3 e13 pen13 => ⟨rfl, _, rfl, iteC (fun hb => ?_) (fun hb => kk _ _ ⟨ho, te, rfl, x012.trans e13, pen13.more (by omega)⟩)⟩) fun σ2 H14 ⟨ho, te, eσ, x14, pen14⟩ => ?_
    · have sit13 := sit12.exP pen12 e13
      obtain ⟨v1, v2, ht13, t1, t2⟩ := id sit13.tell
      refine q_asgD (named_raw (p := p) (lc := lc) (fun H1 e1 => ix 1 _ rfl (e1 _ _ ht13) rfl) t1 ok.n1 rfl rfl pen13 (by omega) fun s1 H14 e14 pen14 => ?_)
      have ht14 := e14.ex _ _ ht13 (pen13.ne_tup ht13)
      refine asg_raw (named_raw (p := p) (lc := lc) (fun H1 e1 => ix 2 _ rfl (e1 _ _ ht14) rfl) (t2.exP pen13 e14) ok.n2 rfl rfl pen14 (by omega) fun s2 H15 e15 pen15 => ?_)
      exact kk _ _ ⟨s1, s2, rfl, ((x012.trans e13).trans e14).trans e15, pen15.more (by omega)⟩
    · subst eσ
      have sit14 := sit.exP pen x14
      refine q_asgL (xs := [.bl (letsB L f m ho te), .bl (letsB L f m ho te)]) (el_lst (ea_cons (ev_lets (ev_var rfl) (ev_var rfl) (ev_var rfl) (ev_var rfl) (ev_var rfl) sit14.line hm) (ea_cons (ev_letsM (ev_var rfl) (ev_var rfl) (em_mode (ev_var rfl) hm) (ev_var rfl) (ev_var rfl) sit14.line hm) ea_nil)) (by show 2 ≤ 100000; decide)) fun q H15 hq e15 h15 => ?_
      have sit15 := sit14.mono e15
      refine q_app (K := K) h15 (ev_var rfl) (ev_letsK (ev_var rfl) (ea_cons (ev_var rfl) (ea_cons (ev_var rfl) (ea_cons (ev_var rfl) (ea_cons (ev_var rfl) ea_nil)))) sit15.line hm) (by show 2 < 100000; decide) fun H16 e16 => ?_
      have e1416 : Ex H14 (upd H16 q (.lst [.bl (letsB L f m ho te), .bl (letsB L f m ho te), .bl (letsB L f m ho te)])) := exu hq (e15.trans e16)
      have hq16 : (upd H16 q (.lst [.bl (letsB L f m ho te), .bl (letsB L f m ho te), .bl (letsB L f m ho te)])) q = some (.lst [.bl (letsB L f m ho te), .bl (letsB L f m ho te), .bl (letsB L f m ho te)]) := upd_same
      show tRet _ _ _ (upd H16 q (.lst [.bl (letsB L f m ho te), .bl (letsB L f m ho te), .bl (letsB L f m ho te)]))
      generalize upd H16 q (.lst [.bl (letsB L f m ho te), .bl (letsB L f m ho te), .bl (letsB L f m ho te)]) = H17 at e1416 hq16
      have sit17 := sit14.mono e1416
      obtain ⟨f1, f2, f3, f4⟩ := three_fits (letsB L f m ho te)
      have pr : ∀ q H', H' q = some (.lst [.bl (letsB L f m ho te), .bl (letsB L f m ho te), .bl (letsB L f m ho te)]) → KD.RepV K H' (.ref q) (threeD (letsB L f m ho te)).shown := fun q H' h => .obj (.lst (sq_of h) (.cons (.bl _) (.cons (.bl _) (.cons (.bl _) .nil)))) f1 f2 f3 (Nat.le_trans f4 (by decide))
      refine s_ret (v := .bl true) (ev_is (ev_op (ev_reprO (K := K) (ev_var rfl) hq16 pr) (ev_reprL (K := K) (xs := [.bl (letsB L f m ho te), .bl (letsB L f m ho te), .bl (letsB L f m ho te)]) (el_is (el_rep (k := 3) (el_lst (vs := [.bl (letsB L f m ho te)]) (ea_cons (ev_call (vs := [.ref t, .str f, .int (m : Nat), .str ho, .str te]) (ea_cons (ev_var rfl) (ea_cons (ev_var rfl) (ea_cons (ev_var rfl) (ea_cons (ev_var rfl) (ea_cons (ev_var rfl) ea_nil))))) fun H1 e Q q E => ⟨t, L, f, ho, te, m, rfl, sit17.tell.mono e, q⟩) ea_nil) (by show 1 ≤ 100000; decide)) ev_c (by decide) (by show 1 * 3 ≤ 100000; decide)) rfl) fun q H' h _ => pr q H' h) (rv_eq rfl)) (congrArg V.bl (decide_eq_true rfl))) fun H18 e18 => ?_
      exact k H18 (x14.trans (ExP.of (e1416.trans e18))) (pen14.keep (e1416.trans e18))
end
end KG
set_option Elab.async false
set_option linter.all false
set_option maxRecDepth 100000
set_option maxHeartbeats 4000000
namespace KG
open PySem PySem.Spec PyProof.Rows L2 Evl KF
local macro_rules | `(tactic| walk_at "ev") => `(tactic| repeat' (first | exact ev_c | exact ev_var rfl | exact rv_I0 | refine' rv_I ?_ | refine' rv_eq ?_ | refine' rv_ne ?_ | refine' ev_op ?_ ?_ ?_ | exact ea_nil | refine' ea_cons ?_ ?_ | refine' et_test ?_ | refine' et_B ?_ | refine' et_not ?_ | refine' ev_notV ?_))

open PySem
theorem q_forS {D : Ends} {tz : TS} {σ : L2.St} {H : Hp} {te : TE} {s : Str} {j : Nat} {ts : TS} (h : Ev te σ H (.str s)) (Pv : Nat → L2.St → Hp → Prop) (h0 : ∀ H1, Ex H H1 → Pv 0 σ H1)
    (hs : ∀ (i c : Nat) σ' H', s.cps.toList[i]? = some c → Pv i σ' H' → ts { D with nx := Pv (i + 1), ct := Pv (i + 1), bk := tz D } (σ'.set j (some (.str ⟨#[c]⟩))) H') (hd : ∀ σ' H', Pv s.cps.size σ' H' → tz D σ' H') : tSeq (tFor (iStr te) (gName j) ts) tz D σ H :=
  h H (Ex.refl H) _ fun H1 e1 => ⟨s, rfl, fun i m σ' H' => m = s.cps.size - i ∧ i ≤ s.cps.size ∧ Pv i σ' H', ⟨s.cps.size, by simp, Nat.zero_le _, h0 H1 e1⟩, by
    rintro i m σ' H' ⟨rfl, hi, p⟩
    by_cases hlt : i < s.cps.size
    · refine .inr ⟨hlt, Pv (i + 1), fun σ2 H2 p' => ⟨s.cps.size - (i + 1), by omega, rfl, hlt, p'⟩, ?_⟩
      rintro x H2 ⟨rfl, c, hc, rfl⟩
      rw [← Array.getElem?_toList] at hc
      exact hs i c σ' _ hc p
    · have e : i = s.cps.size := by omega
      subst e
      exact .inl ⟨Nat.le_refl _, hd σ' H' p⟩⟩
theorem rwx_at {i c : Nat} (h : ("rwx" : Str).cps.toList[i]? = some c) : i < 3 ∧ (⟨#[c]⟩ : Str) = letS i := by
  match i, h with
  | 0, h => cases h; exact ⟨by decide, rfl⟩
  | 1, h => cases h; exact ⟨by decide, rfl⟩
  | 2, h => cases h; exact ⟨by decide, rfl⟩
  | n + 3, h => cases h
section
variable {K : PySem.W.Frag} {a : Ads} {σ : L2.St} {H : Hp} {tf t1 t2 td te : TE} {tk : TA} {i : Nat} {b t : Addr} {L : Ln} {E : XK} {v : V} {o : Option (List Str)} {w : Str} {x y : Bool}
theorem el_lpats (h1 : Ev t1 σ H (.ref t)) (h2 : Ev t2 σ H (.str (letS i))) (tell : TellAt H t L) (ok : LnOk L) (hi : i < 3) : EvL (tCall spLPats [] E (tCons t1 (tCons t2 tNil))) σ H (given 8 (patB L i) fun p => .int (p : Nat)) := fun H1 e Q q =>
  h1 H1 e _ fun H2 e2 => h2 H2 (e.trans e2) _ fun H3 e3 => ⟨t, L, i, rfl, tell.mono ((e.trans e2).trans e3), ok, hi, fun l H4 hl e4 h4 => q l H4 (fresh_back (e2.trans e3) hl) ((e2.trans e3).trans e4) h4⟩
theorem el_pats (hf : Ev tf σ H (.ref b)) (h2 : Ev t2 σ H (.str (letS i))) (mb : LineAt a H b L) (ok : LnOk L) (hi : i < 3) : EvL (tMeth a.f_Line "patterns" (spPats a) [] E tf (tCons t2 tNil)) σ H (given 8 (patB L i) fun p => .int (p : Nat)) := fun H1 e Q q => by
  obtain ⟨dx, v1, v2, m1, m2, hb, _⟩ := id mb
  exact hf H1 e _ fun H2 e2 => ⟨b, dx, _, rfl, (e.trans e2) _ _ hb, (fs_no _ _ _ _ _).2.2, h2 H2 (e.trans e2) _ fun H3 e3 => ⟨b, L, i, rfl, mb.mono ((e.trans e2).trans e3), ok, hi, fun l H4 hl e4 h4 => q l H4 (fresh_back (e2.trans e3) hl) ((e2.trans e3).trans e4) h4⟩⟩
theorem el_patsK (hf : Ev tf σ H (.ref b)) (h2 : Ev t2 σ H (.str (letS i))) (mb : LineAt a H b L) (ok : LnOk L) (hi : i < 3) : EvL (tMethK a.f_Line "patterns" (spPats a) g2 E tf (tCons t2 tNil)) σ H (given 8 (patB L i) fun p => .int (p : Nat)) := fun H1 e Q q => by
  obtain ⟨dx, v1, v2, m1, m2, hb, _⟩ := id mb
  exact hf H1 e _ fun H2 e2 => ⟨b, dx, _, rfl, (e.trans e2) _ _ hb, (fs_no _ _ _ _ _).2.2, h2 H2 (e.trans e2) _ fun H3 e3 => ⟨b, L, i, rfl, mb.mono ((e.trans e2).trans e3), ok, hi, fun l H4 hl e4 h4 => q l H4 (fresh_back (e2.trans e3) hl) ((e2.trans e3).trans e4) h4⟩⟩
theorem rv_isB : RV rIsB (.bl x) (.bl y) H (.bl (decide (x = y))) := fun H1 _ _ q => ⟨x, y, rfl, rfl, q H1 (Ex.refl H1)⟩
theorem first_of (ht : ∀ H1, Ex H H1 → Ev te σ H1 v) (t : ToldAt H v o) (ok : NamesOk o) (hd : Ev td σ H (.str w)) : ∃ h : Str, namesB o h = true ∧ Ev (tIf (tTest (tOp (fun x y H Q => y = .non ∧ Q (.bl (decide (x = .non))) H) te (tC .non))) td (tOp (rIxL K) te (tC (.int 0)))) σ H (.str h) := by
  have h0 := ht H (Ex.refl H)
  cases o with
  | none =>
    obtain rfl : v = .non := t
    exact ⟨w, rfl, ev_if (b := true) (et_is (et_test (ev_op h0 ev_c rv_isN)) rfl) (fun _ => hd) fun z => nomatch z⟩
  | some xs =>
    obtain ⟨l, rfl, hl⟩ := t
    match xs, ok.pos xs rfl, hl with
    | x :: r, _, hl => exact ⟨x, decide_eq_true (List.mem_cons_self ..), ev_if (b := false) (et_is (et_test (ev_op h0 ev_c rv_isN)) (decide_eq_false fun z => nomatch z)) (fun z => nomatch z) fun _ => ev_op h0 ev_c (rv_ixL (K := K) (sq_of hl) (show atI _ ((0 : Nat) : Int) = _ from atI_nat rfl))⟩
end
section
variable {P : Program} {w : World} {K : PySem.W.Frag} {mg : Str → Option Value} {base : Heap} {a : Ads}
theorem ok_pright (T : Txt w K mg a) : FnOk P w K mg base CX0 9 a.f__law_patterns_right a.d__law_patterns_right ["_law_pen_here", "_law_told", "_law_line_here", "_law_names_here"] (spRight a 3) := by
  have G__law_pick : FnOk P w K mg base CX0 8 _ _ _ _ := (ok_pick T).mono (by decide)
  have G__law_patterns : FnOk P w K mg base CX0 8 _ _ _ _ := (ok_lpats T).mono (by decide)
  have G_Line_lets : FnOk P w K mg base CX0 8 _ _ _ _ := (ok_lets T).mono (by decide)
  have G_Line_patterns : FnOk P w K mg base CX0 8 _ _ _ _ := (ok_pats T).mono (by decide)
  have G_Mode_with_pattern : FnOk P w K mg base CX0 8 _ _ _ _ := (ok_MWith T).mono (by decide)
  have G_Mode_init : FnOk P w K mg base CX0 7 _ _ _ _ := (ok_Mode_init T).mono (by decide)
  refine T.fn__law_patterns_right.ok sc__law_patterns_right (fun vs H Q E h => ?_) fun cdv A outer st H vs Q E hr h => ?_
  · obtain ⟨_, _, _, _, _, _, _, _, rfl, _⟩ := h
    rfl
  · obtain ⟨p, lc, t, b, ln, n, L, ns, rfl, pen, hn, sit, ok, hns, k⟩ := h
    have hrc : Room 8 _ := hr
    have hrm : Room (7 + 1) _ := hr
    refine ⟨_, (pss_cons (ps_set (i := 4) sc__law_patterns_right.nd rfl (Or.inl rfl) (pe_make T.mk_Mode G_Mode_init hrm rfl T.mg_Mode (bd_ModeD_initD T) .nil pass0 (pa_cons pe_int pa_nil)))
    (pss_cons (ps_for PassesOwn.never rfl (pi_str pe_str) (pg_name (i := 5) sc__law_patterns_right.nd rfl (Or.inl rfl)) (pss_cons (ps_par (i := 6) (j := 7) rfl sc__law_patterns_right.nd rfl rfl (by decide) rfl rfl (pa_cons (pe_call G__law_patterns hrc rfl T.mg__law_patterns T.fn__law_patterns.kp (bd__law_patterns T) .nil pass0 (pa_cons (pv 1) (pa_cons (pv 5) pa_nil))) (pa_cons (pe_meth (pv 2) T.c_Line T.m_Line_patterns G_Line_patterns hrc (bd_Line_patterns T) .nil pass0 (pa_cons (pv 5) pa_nil)) pa_nil)) (by rfl))
    (pss_cons (ps_if (pt_cmpR (op_neD hr.units) (pv 7) (pv 6) (nomark _)) (pss_one (ps_ret pe_bl)) pss_nil)
    (pss_cons (ps_expr (pe_bm PySem.F.plainAttrs_list PySem.F.slot_list_append PySem.F.type_list_append mt_append (pv 7) (pa_cons pe_int pa_nil)))
    (pss_cons (ps_if (pt_cmpR (op_neD hr.units) (pe_methK (pv 2) T.c_Line T.m_Line_patterns G_Line_patterns hrc (kb_patterns T) pass0 (pk_cons (pv 5) pk_nil)) (pv 6) (nomark _)) (pss_one (ps_ret pe_bl)) pss_nil)
    (pss_one (ps_set (i := 4) sc__law_patterns_right.nd rfl (Or.inl rfl) (pe_meth (pv 4) T.c_Mode T.m_Mode_with_pattern G_Mode_with_pattern hrc (bd_Mode_with_pattern T) .nil pass0 (pa_cons (pv 5) (pa_cons (pe_call G__law_pick hrc rfl T.mg__law_pick T.fn__law_pick.kp (bd__law_pick T) .nil pass0 (pa_cons (pv 0) (pa_cons (pv 6) pa_nil))) pa_nil))))))))))
    (pss_cons (ps_set (i := 8) sc__law_patterns_right.nd rfl (Or.inl rfl) (pe_ifExp (pt_cmpR op_isN (pe_ix ix_tup (pv 1) pe_int (fun _ _ => rfl)) pe_non (nomark _)) (pe_ix ix_list (pv 3) pe_int (fun _ _ => rfl)) (pe_ix ix_list (pe_ix ix_tup (pv 1) pe_int (fun _ _ => rfl)) pe_int (fun _ _ => rfl))))
    (pss_one (ps_ret (pe_cmpR op_isBl (pe_meth (pv 2) T.c_Line T.m_Line_lets G_Line_lets hrc (bd_Line_lets T) .nil pass0 (pa_cons (pe_ix ix_tup (pv 1) pe_int (fun _ _ => rfl)) (pa_cons (pv 4) (pa_cons (pv 8) (pa_cons (pe_ifExp (pt_cmpR op_isN (pe_ix ix_tup (pv 1) pe_int (fun _ _ => rfl)) pe_non (nomark _)) (pe_ix ix_list (pv 3) pe_int (fun _ _ => rfl)) (pe_ix ix_list (pe_ix ix_tup (pv 1) pe_int (fun _ _ => rfl)) pe_int (fun _ _ => rfl))) pa_nil))))) pe_bl (nomark _))))))), ?_⟩
    have ix : ∀ {σ : L2.St} {H1 : Hp} {v1 v2 : V} (i : Nat) (x : V), σ[1]? = some (some (.ref t)) → H1 t = some (.tup [.str L.form, v1, v2, .int (L.must : Nat), .int (L.never : Nat)]) → [V.str L.form, v1, v2, .int (L.must : Nat), .int (L.never : Nat)][i]? = some x → Ev (tOp (rIxT K) (tVar 1) (tC (.int (i : Nat)))) σ H1 x := fun i x hs ht hx => ev_ixt (K := K) (ev_var hs) ht hx
    refine q_asgD (em_mode (a := a) (n := 0) (ev_is ev_c rfl) (by decide) H (Ex.refl _) _ fun m0 H1 hm0 e1 mm0 => ?_)
    refine q_forS (s := "rwx") ev_c (fun i σ' H' => ∃ o5 o6 o7 m N, σ' = [some (.ref p), some (.ref t), some (.ref b), some (.ref ln), some (.ref m), o5, o6, o7, none] ∧ ExP p H H' ∧ PenL H' p lc (n + i) ∧ ModeAt a H' m N ∧ N < 512 ∧ ∀ j, j < i → patB L j (patN N (wtN j)) = true) (fun H2 e2 => ⟨_, _, _, m0, 0, rfl, ExP.of (e1.trans e2), pen.keep (e1.trans e2), mm0.mono e2, by decide, fun _ z => absurd z (Nat.not_lt_zero _)⟩) (fun i c σ' H2 hc q => ?_) (fun σ' H2 q => ?_)
    · obtain ⟨o5, o6, o7, m, N, rfl, x2, pen2, mm, hN, hp⟩ := q
      obtain ⟨hi, ec⟩ := rwx_at hc
      rw [ec]
      have sit2 := sit.exP pen x2
      refine q_parD (el_raw (el_lpats (i := i) (ev_var rfl) (ev_var rfl) sit2.tell ok hi) fun qd H3 hqd e3 h3 => el_raw (el_pats (i := i) (ev_var rfl) (ev_var rfl) (sit2.mono e3).line ok hi) fun qf H4 hqf e4 h4 => ⟨_, _, rfl, ?_⟩)
      have eG := given_ints (n := 8) (f := patB L i)
      refine q_when (b := false) (et_is (et_test (ev_op (ev_var rfl) (ev_var rfl) (rv_neI (by rw [← eG]; exact h4) (by rw [← eG]; exact e4 _ _ h3)))) rfl) (fun z => nomatch z) fun _ H5 e5 => ?_
      refine q_app (K := K) (e5 _ _ h4) (ev_var rfl) ev_c (by have := given_le (n := 8) (f := patB L i) (v := fun p => V.int (p : Nat)); omega) fun H6 e6 => ?_
      have e37 : Ex H3 (upd H6 qf (.lst ((given 8 (patB L i) fun p => V.int (p : Nat)) ++ [.int 9]))) := exu hqf ((e4.trans e5).trans e6)
      show tSeq _ _ _ _ (upd H6 qf (.lst ((given 8 (patB L i) fun p => V.int (p : Nat)) ++ [.int 9])))
      generalize upd H6 qf (.lst ((given 8 (patB L i) fun p => V.int (p : Nat)) ++ [.int 9])) = H7 at e37
      have e27 := e3.trans e37
      have sit7 := sit2.mono e27
      have h7 := e37 _ _ h3
      refine q_when (b := false) (et_is (et_test (ev_opL1 (el_patsK (i := i) (ev_var rfl) (ev_var rfl) sit7.line ok hi) (fun _ _ => ev_var rfl) fun q H8 h8 e8 => rv_neI (by rw [← eG]; exact h8) (by rw [← eG]; exact e8 _ _ h7))) rfl) (fun z => nomatch z) fun _ H8 e8 => ?_
      have e28 := e27.trans e8
      obtain ⟨dxm, hm8⟩ := mm.mono e28
      obtain ⟨c0, hc0, pc0⟩ := pat_some ok hi
      have pen8 := pen2.keep e28
      have ne8 : qd ≠ p := (pen2.pen.ne_new hqd)
      refine asg_raw ⟨.ref m, rfl, m, dxm, _, rfl, hm8, rfl, _, rfl, pick_raw rfl (ev_raw (ev_var rfl) fun H9 e9 => pk_list (lc := lc) (pen8.keep e9) (by omega) (e9 _ _ (e8 _ _ h7)) ne8 (given_pos hc0 pc0) (by have := given_le (n := 8) (f := patB L i) (v := fun p => V.int (p : Nat)); omega) fun x H10 hx e10 pen10 => ?_)⟩
      obtain ⟨c, hc8, pc, rfl⟩ := given_mem (c := 0) hx
      have mm10 := ((mm.mono e28).mono e9).exP (pen8.keep e9) e10
      refine ⟨m, N, i, c, rfl, mm10, hN, hi, hc8, fun q H11 hq e11 mq => ⟨_, _, _, q, wN N i c, rfl, (((x2.trans (ExP.of (e28.trans e9))).trans e10).trans (ExP.of e11)), pen10.keep e11, mq, wN_lt i hi c hc8 N hN, fun j hj => ?_⟩⟩
      by_cases hji : j = i
      · rw [hji, with_at i hi c hc8 N hN]
        exact pc
      · rw [other_law i hi j (by omega) (fun z => hji z.symm) c hc8 N hN]
        exact hp j (by omega)
    · obtain ⟨o5, o6, o7, m, N, rfl, x2, pen2, mm, hN, hp⟩ := q
      have sit2 := sit.exP pen x2
      obtain ⟨v1, v2, ht, t1, t2⟩ := id sit2.tell
      obtain ⟨n0, n1, n2, n3, rfl⟩ : ∃ n0 n1 n2 n3, ns = [n0, n1, n2, n3] := by
        match ns, hns.len with
        | [a, b, c, d], _ => exact ⟨a, b, c, d, rfl⟩
      obtain ⟨hh, bh, evh⟩ := first_of (K := K) (σ := [some (.ref p), some (.ref t), some (.ref b), some (.ref ln), some (.ref m), o5, o6, o7, none]) (te := tOp (rIxT K) (tVar 1) (tC (.int ((1 : Nat) : Int)))) (td := tOp (rIxL K) (tVar 3) (tC (.int ((0 : Nat) : Int)))) (w := n0) (fun H3 e3 => ix 1 _ rfl (e3 _ _ ht) rfl) t1 ok.n1 (ev_op (ev_var rfl) ev_c (rv_ixL (K := K) (sq_of sit2.names) (atI_nat rfl)))
      refine q_asg (v := .str hh) evh fun H3 e3 => ?_
      have sit3 := sit2.mono e3
      obtain ⟨g, bg, evg⟩ := first_of (K := K) (σ := [some (.ref p), some (.ref t), some (.ref b), some (.ref ln), some (.ref m), o5, o6, o7, some (.str hh)]) (te := tOp (rIxT K) (tVar 1) (tC (.int ((2 : Nat) : Int)))) (td := tOp (rIxL K) (tVar 3) (tC (.int ((3 : Nat) : Int)))) (w := n3) (fun H4 e4 => ix 2 _ rfl (e4 _ _ (e3 _ _ ht)) rfl) (t2.mono e3) ok.n2 (ev_op (ev_var rfl) ev_c (rv_ixL (K := K) (sq_of sit3.names) (atI_nat rfl)))
      refine s_ret (v := .bl true) (ev_is (ev_op (ev_letsR (m := m) (ev_var rfl) (ix 0 _ rfl (e3 _ _ ht) rfl) (ev_var rfl) (ev_var rfl) evg sit3.line (mm.mono e3) hN) ev_c rv_isB) ?_) fun H4 e4 => k H4 (x2.trans (ExP.of (e3.trans e4))) (pen2.keep (e3.trans e4))
      rw [lets_all ok hN (fun i hi => hp i hi) bh bg]
      rfl
end
end KG
set_option Elab.async false
set_option linter.all false
set_option maxRecDepth 100000
set_option maxHeartbeats 4000000
namespace KG
open PySem PySem.Spec PyProof.Rows L2 Evl KF
local macro_rules | `(tactic| walk_at "ev") => `(tactic| repeat' (first | exact ev_c | exact ev_var rfl | exact rv_I0 | refine' rv_I ?_ | refine' rv_eq ?_ | refine' rv_ne ?_ | refine' ev_op ?_ ?_ ?_ | exact ea_nil | refine' ea_cons ?_ ?_ | refine' et_test ?_ | refine' et_B ?_ | refine' et_not ?_ | refine' ev_notV ?_))

open PySem
theorem FnG_mono {P : Program} {w : World} {K : PySem.W.Frag} {mg : Str → Option Value} {base : Heap} {k n : Nat} {f : Addr} {fd : FuncData} {ps : List Str} {sp : Sp} (F : KD.FnG P w K mg base k f fd ps sp) (h : k ≤ n) : KD.FnG P w K mg base n f fd ps sp := ⟨F.len, fun A gd r => F.run A gd (r.mono h)⟩
def spLaw (K : PySem.W.Frag) : Sp := fun vs H Q _ => ∃ (s : Addr) (ns : List Int), vs = [.ref s] ∧ SqL K H s (ns.map V.int) ∧ ns.length ≤ 63 ∧ ∀ H', Q (.bl true) H'
section
variable {K : PySem.W.Frag} {a : Ads} {σ : L2.St} {H : Hp} {tf t1 t2 td te : TE} {tu : TS} {D : Ends} {i n m : Nat} {p lc b t ln : Addr} {L : Ln} {ns : List Str} {E : XK}
theorem s_ifR (h1 : σ[1]? = some (some (.ref p))) (h4 : σ[4]? = some (some (.ref t))) (h5 : σ[5]? = some (some (.ref b))) (h3 : σ[3]? = some (some (.ref ln))) (pen : PenL H p lc n) (hn : n + m ≤ 100000) (sit : Sit a H t b ln L ns) (ok : LnOk L) (hns : NamesL ns) (k : ∀ H', ExP p H H' → PenL H' p lc (n + m) → D.nx σ H') :
    tIfS (tNot (tB (tCall (spRight a m) [] E (tCons (tVar 1) (tCons (tVar 4) (tCons (tVar 5) (tCons (tVar 3) tNil))))))) tu tNext D σ H :=
  ⟨.ref p, h1, .ref t, h4, .ref b, h5, .ref ln, h3, p, lc, t, b, ln, n, L, ns, rfl, pen, hn, sit, ok, hns, fun H' x pen' => ⟨true, rfl, iteC (fun z => nomatch z) fun _ => k H' x pen'⟩⟩
theorem el_patsN (hf : EvLn a tf σ H L) (h2 : Ev t2 σ H (.str (letS i))) (ok : LnOk L) (hi : i < 3) : EvL (tMeth a.f_Line "patterns" (spPats a) [] E tf (tCons t2 tNil)) σ H (given 8 (patB L i) fun p => .int (p : Nat)) := fun H1 e Q q =>
  hf H1 e _ fun b H2 hb e2 mb => by
    obtain ⟨dx, v1, v2, m1, m2, hb2, _⟩ := id mb
    exact ⟨b, dx, _, rfl, hb2, (fs_no _ _ _ _ _).2.2, h2 H2 (e.trans e2) _ fun H3 e3 => ⟨b, L, i, rfl, mb.mono e3, ok, hi, fun l H4 hl e4 h4 => q l H4 (fresh_back (e2.trans e3) hl) ((e2.trans e3).trans e4) h4⟩⟩
theorem el_rg8 : EvL (tLstRg (tRg1 (tC (.int 8)))) σ H (rgV 0 8) := fun H1 e Q q => ⟨8, rfl, .of_le (by decide) (by decide) (by decide) (by decide), fun l hl => q l _ hl (Ex.new hl) upd_same⟩
end
def lnF : Ln := ⟨"file", none, none, 0, 0⟩
def lnG : Ln := ⟨"file", none, none, 73, 0⟩
theorem lnF_ok : LnOk lnF := ⟨.inl rfl, .non, .non, by decide, by decide, rfl⟩
theorem lnG_ok : LnOk lnG := ⟨.inl rfl, .non, .non, by decide, by decide, rfl⟩
theorem lnF_is : ((List.range 8).filter (patB lnF 1)).map (fun p => ((p : Nat) : Int)) = [0, 1, 2, 3, 4, 5, 6, 7] := by decide +kernel
theorem lnG_is : ((List.range 8).filter (patB lnG 2)).map (fun p => ((p : Nat) : Int)) = [7] := by decide +kernel
section
variable {P : Program} {w : World} {K : PySem.W.Frag} {mg : Str → Option Value} {base : Heap} {a : Ads}
theorem ok_law (T : Txt w K mg a) {fL : Addr} {oc kV doc pm cdv ct : Value} {od an : Option Addr} {osl : Array (Option Value)} (lkL : K.lookup fL = some ⟨oc, od, .func (PySem.W.fnOf "law" "law" (defArgs s_law) (defBody s_law) (defScope s_law) .none kV doc pm an cdv ct), osl⟩) (hcdL : PySem.W.codeIn K cdv "law" = true) :
    KD.FnG P w K mg base 11 fL (PySem.W.fnOf "law" "law" (defArgs s_law) (defBody s_law) (defScope s_law) .none kV doc pm an cdv ct) ["_law_script"] (spLaw K) := by
  have G__law_pen : FnOk P w K mg base CX0 10 _ _ _ _ := (ok_pen T).mono (by decide)
  have G__law_names : FnOk P w K mg base CX0 10 _ _ _ _ := (ok_names T).mono (by decide)
  have G__law_line : FnOk P w K mg base CX0 10 _ _ _ _ := (ok_lline T).mono (by decide)
  have G__law_line_made : FnOk P w K mg base CX0 10 _ _ _ _ := (ok_made T).mono (by decide)
  have G__law_patterns_right : FnOk P w K mg base CX0 10 _ _ _ _ := (ok_pright T).mono (by decide)
  have G__law_lets_right : KD.FnG P w K mg base 10 _ _ _ _ := FnG_mono (ok_lright T) (by decide)
  have G_Line_init : FnOk P w K mg base CX0 9 _ _ _ _ := (ok_Line_init T).mono (by decide)
  have G_Line_patterns : FnOk P w K mg base CX0 10 _ _ _ _ := (ok_pats T).mono (by decide)
  obtain ⟨ds1, vl1, bl1⟩ := bd_Line1 T
  obtain ⟨ds4, vl4, bl4⟩ := bd_Line4 T
  refine KD.fnG_of lkL hcdL sc_law (fun vs H Q E h => ?_) fun A outer s H vs Q E gd hr h => ?_
  · obtain ⟨_, _, rfl, _⟩ := h
    rfl
  · obtain ⟨sc, ns, rfl, hs, hl, kk⟩ := h
    have hrc : Room 10 _ := hr
    have hrm : Room (9 + 1) _ := hr
    have hu64 := hr.units
    refine ⟨_, (show PSs (cxOf CX0 P w K mg base n_law "law" (defScope s_law) fL cdv A outer s H E).nox (defBody s_law) _ from (pss_cons (ps_set (i := 1) sc_law.nd rfl (Or.inl rfl) (pe_call G__law_pen hrc rfl T.mg__law_pen T.fn__law_pen.kp (bd__law_pen T) .nil pass0 (pa_cons (pv 0) pa_nil)))
    (pss_cons (ps_for PassesOwn.never rfl (pi_range1 rfl T.b_range (pa_cons pe_int pa_nil)) (pg_name (i := 2) sc_law.nd rfl (Or.inl rfl)) (pss_cons (ps_set (i := 3) sc_law.nd rfl (Or.inl rfl) (pe_call G__law_names hrc rfl T.mg__law_names T.fn__law_names.kp (bd__law_names T) .nil pass0 (pa_cons (pv 1) (pa_cons pe_int pa_nil))))
    (pss_cons (ps_set (i := 4) sc_law.nd rfl (Or.inl rfl) (pe_call G__law_line hrc rfl T.mg__law_line T.fn__law_line.kp (bd__law_line T) .nil pass0 (pa_cons (pv 1) (pa_cons (pv 3) pa_nil))))
    (pss_cons (ps_set (i := 5) sc_law.nd rfl (Or.inl rfl) (pe_call G__law_line_made hrc rfl T.mg__law_line_made T.fn__law_line_made.kp (bd__law_line_made T) .nil pass0 (pa_cons (pv 4) pa_nil)))
    (pss_cons (ps_for PassesOwn.never rfl (pi_range1 rfl T.b_range (pa_cons pe_int pa_nil)) (pg_name (i := 6) sc_law.nd rfl (Or.inl rfl)) (pss_one (ps_if (pt_not (pt_val (KD.pe_callG (E := fun _ _ _ => False) G__law_lets_right gd hrc rfl T.mg__law_lets_right T.fn__law_lets_right.kp (bd__law_lets_right T) (pa_cons (pv 1) (pa_cons (pv 4) (pa_cons (pv 5) (pa_cons (pv 3) pa_nil))))))) (pss_one (ps_ret pe_bl)) pss_nil)))
    (pss_one (ps_if (pt_not (pt_val (pe_call G__law_patterns_right hrc rfl T.mg__law_patterns_right T.fn__law_patterns_right.kp (bd__law_patterns_right T) .nil pass0 (pa_cons (pv 1) (pa_cons (pv 4) (pa_cons (pv 5) (pa_cons (pv 3) pa_nil))))))) (pss_one (ps_ret pe_bl)) pss_nil)))))))
    (pss_one (ps_ret (pe_and (pe_cmpR (op_eqD hr.units) (pe_meth (pe_make T.mk_Line G_Line_init hrm rfl T.mg_Line bl1 vl1 pass0 (pa_cons pe_str pa_nil)) T.c_Line T.m_Line_patterns G_Line_patterns hrc (bd_Line_patterns T) .nil pass0 (pa_cons pe_str pa_nil)) (pe_listRg rfl (by rfl) T.b_list (prg_1 (by rfl) T.b_range pe_int)) (nomark _)) (pe_one (pe_cmpR (op_eqD hr.units) (pe_meth (pe_make T.mk_Line G_Line_init hrm rfl T.mg_Line bl4 vl4 pass0 (pa_cons pe_str (pa_cons pe_non (pa_cons pe_non (pa_cons pe_int pa_nil))))) T.c_Line T.m_Line_patterns G_Line_patterns hrc (bd_Line_patterns T) .nil pass0 (pa_cons pe_str pa_nil)) (pe_lst (pa_cons pe_int pa_nil)) (nomark _))))))))), ?_⟩
    refine ⟨.ref sc, rfl, sc, ns, rfl, hs, hl, fun p H1 hp e1 pen1 => ?_⟩
    obtain ⟨lc, pen1⟩ := pen1.fixL
    refine q_forR1 (n := 8) (ea_cons ev_c ea_nil) (by decide) (fun i σ' H' => ∃ o2 o3 o4 o5 o6, σ' = [some (.ref sc), some (.ref p), o2, o3, o4, o5, o6] ∧ PenL H' p lc (150 * i)) (fun H2 e2 => ⟨_, _, _, _, _, rfl, pen1.keep e2⟩) (fun i σ' H2 hi q => ?_) (fun σ' H2 q => ?_)
    · obtain ⟨o2, o3, o4, o5, o6, rfl, pen2⟩ := q
      have hi8 : i < 8 := by omega
      refine q_asgD ⟨.ref p, rfl, p, lc, 150 * i, rfl, pen2, by omega, fun l nn H3 hl3 x3 pen3 hln hns => ?_⟩
      refine q_asgD ⟨.ref p, rfl, .ref l, rfl, p, lc, l, 150 * i + 14, nn, rfl, pen3, by omega, hln, hns, fun t L H4 ht4 x4 pen4 tell ok => ?_⟩
      refine q_asgD ⟨.ref t, rfl, t, L, rfl, tell, ok, fun b H5 hb5 e5 mb => ?_⟩
      have sit : Sit a H5 t b l L nn := ⟨tell.mono e5, mb, e5 _ _ (x4.ex _ _ hln (pen3.ne_strs hln))⟩
      have pen5 := pen4.keep e5
      refine q_forR1 (n := 12) (ea_cons ev_c ea_nil) (by decide) (fun j σ' H' => ∃ o6, σ' = [some (.ref sc), some (.ref p), some (.int (i : Nat)), some (.ref l), some (.ref t), some (.ref b), o6] ∧ Sit a H' t b l L nn ∧ PenL H' p lc (150 * i + 23 + 9 * j)) (fun H6 e6 => ⟨_, rfl, sit.mono e6, (pen5.keep e6).more (by omega)⟩) (fun j σ' H6 hj q => ?_) (fun σ' H6 q => ?_)
      · obtain ⟨o6, rfl, sit6, pen6⟩ := q
        have hj12 : j < 12 := by omega
        exact s_ifR (p := p) (lc := lc) rfl rfl rfl rfl pen6 (by omega) sit6 ok hns fun H7 x7 pen7 => ⟨_, rfl, sit6.exP pen6 x7, pen7.more (by omega)⟩
      · obtain ⟨o6, rfl, sit6, pen6⟩ := q
        have pen6 : PenL H6 p lc (150 * i + 131) := pen6.more (by show 150 * i + 23 + 9 * 12 ≤ _; omega)
        exact s_ifR (p := p) (lc := lc) rfl rfl rfl rfl pen6 (by omega) sit6 ok hns fun H7 x7 pen7 => ⟨_, _, _, _, _, rfl, pen7.more (by omega)⟩
    · obtain ⟨o2, o3, o4, o5, o6, rfl, pen2⟩ := q
      have g1 := (given_ints (n := 8) (f := patB lnF 1)).trans (congrArg (List.map V.int) lnF_is)
      have g2 := (given_ints (n := 8) (f := patB lnG 2)).trans (congrArg (List.map V.int) lnG_is)
      refine s_ret (v := .bl true) (ev_is (ev_andV (a := true) (b := true) (ev_opLL (el_is (el_patsN (L := lnF) (i := 1) (em_line (L := lnF) (v1 := .non) (v2 := .non) (vs := [.str "file"]) (ea_cons ev_c ea_nil) rfl rfl rfl lnF_ok) ev_c lnF_ok (by decide)) g1) (el_is el_rg8 (show _ = ([0, 1, 2, 3, 4, 5, 6, 7] : List Int).map V.int from rfl)) fun p q H3 h1 h2 _ => rv_eqI h1 h2) fun _ =>
        ev_opLL (el_is (el_patsN (L := lnG) (i := 2) (em_line (L := lnG) (v1 := .non) (v2 := .non) (vs := [.str "file", .non, .non, .int 73]) (ea_cons ev_c (ea_cons ev_c (ea_cons ev_c (ea_cons ev_c ea_nil)))) rfl rfl rfl lnG_ok) ev_c lnG_ok (by decide)) g2) (el_is (el_lst (ea_cons ev_c ea_nil) (by show 1 ≤ 100000; decide)) (show [V.int 7] = ([7] : List Int).map V.int from rfl)) fun p q H3 h1 h2 _ => rv_eqI h1 h2) rfl) fun H3 e3 => kk H3
end
end KG
set_option Elab.async false
set_option linter.all false
set_option maxRecDepth 100000
set_option maxHeartbeats 4000000
namespace KG
open PySem PySem.Spec PyProof.Rows L2 Evl KF
local macro_rules | `(tactic| walk_at "ev") => `(tactic| repeat' (first | exact ev_c | exact ev_var rfl | exact rv_I0 | refine' rv_I ?_ | refine' rv_eq ?_ | refine' rv_ne ?_ | refine' ev_op ?_ ?_ ?_ | exact ea_nil | refine' ea_cons ?_ ?_ | refine' et_test ?_ | refine' et_B ?_ | refine' et_not ?_ | refine' ev_notV ?_))

open PySem
theorem kit_self {K : PySem.W.Frag} {C : Addr} : PySem.W.kitOne K (.ref C) (.ref C) = some true := by
  unfold PySem.W.kitOne
  rw [if_pos (beq_iff_eq.mpr rfl)]
theorem kit_no {K : PySem.W.Frag} {C : Addr} {cd : PySem.ClassData} (ci : PySem.W.clsIn K C = some cd) (ti : PySem.W.typeIn K (.ref C) = some (.type "type")) (su : PySem.W.subIn K (.type "int") (.ref C) = some false) : PySem.W.kitOne K (.type "int") (.ref C) = some false := by
  unfold PySem.W.kitOne PySem.W.kitCls
  rw [if_neg (fun h => by have := beq_iff_eq.mp h; cases this)]
  show (if ((PySem.W.clsIn K C).isSome && PySem.W.typeIn K (.ref C) == some (.type "type")) = true then PySem.W.subIn K (.type "int") (.ref C) else none) = some false
  rw [if_pos (by rw [ci, ti]; simp), su]
theorem tup_at {K : PySem.W.Frag} {H : Hp} {k : Addr} {its : Array Value} {n : Nat} {od : Option Addr} {sl : Array (Option Value)} {xs : List V} (l : K.lookup k = some ⟨.type "tuple", od, .seq its n, sl⟩) (z : its.size ≤ sizeLine) (r : Vals xs its.toList) : SqT K H k xs := .inr ⟨_, its, n, l, rfl, rfl, z, r⟩
theorem kit_ref {K : PySem.W.Frag} {D B : Addr} {cd : PySem.ClassData} {b : Bool} (ci : PySem.W.clsIn K B = some cd) (ti : PySem.W.typeIn K (.ref B) = some (.type "type")) (su : PySem.W.subIn K (.ref D) (.ref B) = some b) (ne : D ≠ B) : PySem.W.kitOne K (.ref D) (.ref B) = some b := by
  unfold PySem.W.kitOne PySem.W.kitCls
  rw [if_neg (fun h => by have := beq_iff_eq.mp h; cases this; exact ne rfl)]
  show (if ((PySem.W.clsIn K B).isSome && PySem.W.typeIn K (.ref B) == some (.type "type")) = true then PySem.W.subIn K (.ref D) (.ref B) else none) = some b
  rw [if_pos (by rw [ci, ti]; simp), su]
theorem kit_ve {K : PySem.W.Frag} {D : Addr} {b : Bool} (su : PySem.W.subIn K (.ref D) (.type "ValueError") = some b) : PySem.W.kitOne K (.ref D) (.type "ValueError") = some b := by
  unfold PySem.W.kitOne PySem.W.kitCls
  rw [if_neg (fun h => by have := beq_iff_eq.mp h; cases this)]
  show (if PySem.W.kitMeta "ValueError" = true then PySem.W.subIn K (.ref D) (.type "ValueError") else none) = some b
  rw [if_pos (by decide +kernel), su]
theorem exm_ref {K : PySem.W.Frag} {D B : Addr} {cd : PySem.ClassData} {b : Bool} (ex : PySem.W.subIn K (.ref B) (.type "BaseException") = some true) (ci : PySem.W.clsIn K B = some cd) (ti : PySem.W.typeIn K (.ref B) = some (.type "type")) (su : PySem.W.subIn K (.ref D) (.ref B) = some b) : PySem.W.exmOne K (.ref D) (.ref B) = some b := by
  unfold PySem.W.exmOne PySem.W.kitCls
  rw [if_pos (by rw [ex]; rfl)]
  show (if ((PySem.W.clsIn K B).isSome && PySem.W.typeIn K (.ref B) == some (.type "type")) = true then PySem.W.subIn K (.ref D) (.ref B) else none) = some b
  rw [if_pos (by rw [ci, ti]; simp), su]
theorem kit_noT {K : PySem.W.Frag} {C : Addr} {t : String} {cd : PySem.ClassData} (ci : PySem.W.clsIn K C = some cd) (ti : PySem.W.typeIn K (.ref C) = some (.type "type")) (su : PySem.W.subIn K (.type t) (.ref C) = some false) : PySem.W.kitOne K (.type t) (.ref C) = some false := by
  unfold PySem.W.kitOne PySem.W.kitCls
  rw [if_neg (fun h => by have := beq_iff_eq.mp h; cases this)]
  show (if ((PySem.W.clsIn K C).isSome && PySem.W.typeIn K (.ref C) == some (.type "type")) = true then PySem.W.subIn K (.type t) (.ref C) else none) = some false
  rw [if_pos (by rw [ci, ti]; simp), su]
theorem fund_mk {K : PySem.W.Frag} {x qual : Str} {st : Stmt} {f dT : Addr} {oc : Value} {od an tod : Option Addr} {osl tsl : Array (Option Value)} {kV doc pm cdv ct : Value} {its : Array Value} {n : Nat} {dvs : List V}
    (l : K.lookup f = some ⟨oc, od, .func (PySem.W.fnOf x qual (defArgs st) (defBody st) (defScope st) (.ref dT) kV doc pm an cdv ct), osl⟩) (hcd : PySem.W.codeIn K cdv qual = true) (kp : PySem.W.keepIn K (.ref f) = true)
    (lT : K.lookup dT = some ⟨.type "tuple", tod, .seq its n, tsl⟩) (hv : Vals dvs its.toList) (ne : dvs ≠ []) : FunD K x qual (defArgs st) (defBody st) (defScope st) dvs [] f (PySem.W.fnOf x qual (defArgs st) (defBody st) (defScope st) (.ref dT) kV doc pm an cdv ct) :=
  ⟨⟨oc, od, .ref dT, kV, doc, pm, an, cdv, ct, osl, rfl, l, hcd, .inr ⟨ne, dT, _, its.toList, n, rfl, lT, by simp, hv⟩, .inl rfl⟩, kp⟩
theorem all_mk {l : PySem.W.OpenLaw} {w : World} {K : PySem.W.Frag} {h : Heap} {mg : Str → Option Value} {fa : Addr} (X : K.In h) (G : h.Ns mainGlobals mg) (hfa : mg "law" = some (.ref fa))
    {f_is_whole f_is_whole_to f_is_name f_are_unlike_names f_pattern_in f_bits_of f_weight_of f_number_of f_are_told f_is_mode f_ascending f__law_pen f__law_draw f__law_pick f__law_names f__law_line f__law_line_made f__law_lets f__law_patterns f__law_lets_right f__law_patterns_right f_Mode f_ModeD_initD f_Mode_number p_Mode_number f_Mode_with_pattern f_Line f_LineD_initD k_DFL f_Line_lets_names f_Line_lets f_Line_patterns k_FORMS k_PATTERNS k_WEIGHTS f_law : Addr}
    {od_is_whole : Option Addr} {an_is_whole : Option Addr} {sl_is_whole : Array (Option Value)} {oc_is_whole kV_is_whole dc_is_whole pm_is_whole ct_is_whole : Value} {cd_is_whole : Value} {od_is_whole_to : Option Addr} {an_is_whole_to : Option Addr} {sl_is_whole_to : Array (Option Value)} {oc_is_whole_to kV_is_whole_to dc_is_whole_to pm_is_whole_to ct_is_whole_to : Value} {cd_is_whole_to : Value} {od_is_name : Option Addr} {an_is_name : Option Addr} {sl_is_name : Array (Option Value)} {oc_is_name kV_is_name dc_is_name pm_is_name ct_is_name : Value} {cd_is_name : Value} {od_are_unlike_names : Option Addr} {an_are_unlike_names : Option Addr} {sl_are_unlike_names : Array (Option Value)} {oc_are_unlike_names kV_are_unlike_names dc_are_unlike_names pm_are_unlike_names ct_are_unlike_names : Value} {cd_are_unlike_names : Value} {od_pattern_in : Option Addr} {an_pattern_in : Option Addr} {sl_pattern_in : Array (Option Value)} {oc_pattern_in kV_pattern_in dc_pattern_in pm_pattern_in ct_pattern_in : Value} {cd_pattern_in : Value} {od_bits_of : Option Addr} {an_bits_of : Option Addr} {sl_bits_of : Array (Option Value)} {oc_bits_of kV_bits_of dc_bits_of pm_bits_of ct_bits_of : Value} {cd_bits_of : Value} {od_weight_of : Option Addr} {an_weight_of : Option Addr} {sl_weight_of : Array (Option Value)} {oc_weight_of kV_weight_of dc_weight_of pm_weight_of ct_weight_of : Value} {cd_weight_of : Value} {od_number_of : Option Addr} {an_number_of : Option Addr} {sl_number_of : Array (Option Value)} {oc_number_of kV_number_of dc_number_of pm_number_of ct_number_of : Value} {cd_number_of : Value} {od_are_told : Option Addr} {an_are_told : Option Addr} {sl_are_told : Array (Option Value)} {oc_are_told kV_are_told dc_are_told pm_are_told ct_are_told : Value} {cd_are_told : Value} {od_is_mode : Option Addr} {an_is_mode : Option Addr} {sl_is_mode : Array (Option Value)} {oc_is_mode kV_is_mode dc_is_mode pm_is_mode ct_is_mode : Value} {cd_is_mode : Value} {od_ascending : Option Addr} {an_ascending : Option Addr} {sl_ascending : Array (Option Value)} {oc_ascending kV_ascending dc_ascending pm_ascending ct_ascending : Value} {cd_ascending : Value} {od__law_pen : Option Addr} {an__law_pen : Option Addr} {sl__law_pen : Array (Option Value)} {oc__law_pen kV__law_pen dc__law_pen pm__law_pen ct__law_pen : Value} {cd__law_pen : Value} {od__law_draw : Option Addr} {an__law_draw : Option Addr} {sl__law_draw : Array (Option Value)} {oc__law_draw kV__law_draw dc__law_draw pm__law_draw ct__law_draw : Value} {cd__law_draw : Value} {od__law_pick : Option Addr} {an__law_pick : Option Addr} {sl__law_pick : Array (Option Value)} {oc__law_pick kV__law_pick dc__law_pick pm__law_pick ct__law_pick : Value} {cd__law_pick : Value} {od__law_names : Option Addr} {an__law_names : Option Addr} {sl__law_names : Array (Option Value)} {oc__law_names kV__law_names dc__law_names pm__law_names ct__law_names : Value} {cd__law_names : Value} {od__law_line : Option Addr} {an__law_line : Option Addr} {sl__law_line : Array (Option Value)} {oc__law_line kV__law_line dc__law_line pm__law_line ct__law_line : Value} {cd__law_line : Value} {od__law_line_made : Option Addr} {an__law_line_made : Option Addr} {sl__law_line_made : Array (Option Value)} {oc__law_line_made kV__law_line_made dc__law_line_made pm__law_line_made ct__law_line_made : Value} {cd__law_line_made : Value} {od__law_lets : Option Addr} {an__law_lets : Option Addr} {sl__law_lets : Array (Option Value)} {oc__law_lets kV__law_lets dc__law_lets pm__law_lets ct__law_lets : Value} {cd__law_lets : Value} {od__law_patterns : Option Addr} {an__law_patterns : Option Addr} {sl__law_patterns : Array (Option Value)} {oc__law_patterns kV__law_patterns dc__law_patterns pm__law_patterns ct__law_patterns : Value} {cd__law_patterns : Value} {od__law_lets_right : Option Addr} {an__law_lets_right : Option Addr} {sl__law_lets_right : Array (Option Value)} {oc__law_lets_right kV__law_lets_right dc__law_lets_right pm__law_lets_right ct__law_lets_right : Value} {cd__law_lets_right : Value} {od__law_patterns_right : Option Addr} {an__law_patterns_right : Option Addr} {sl__law_patterns_right : Array (Option Value)} {oc__law_patterns_right kV__law_patterns_right dc__law_patterns_right pm__law_patterns_right ct__law_patterns_right : Value} {cd__law_patterns_right : Value} {od_ModeD_initD : Option Addr} {an_ModeD_initD : Option Addr} {sl_ModeD_initD : Array (Option Value)} {oc_ModeD_initD kV_ModeD_initD dc_ModeD_initD pm_ModeD_initD ct_ModeD_initD : Value} {cd_ModeD_initD : Value} {re_Mode_number : List Value} {od_Mode_number : Option Addr} {an_Mode_number : Option Addr} {sl_Mode_number : Array (Option Value)} {oc_Mode_number kV_Mode_number dc_Mode_number pm_Mode_number ct_Mode_number : Value} {cd_Mode_number : Value} {od_Mode_with_pattern : Option Addr} {an_Mode_with_pattern : Option Addr} {sl_Mode_with_pattern : Array (Option Value)} {oc_Mode_with_pattern kV_Mode_with_pattern dc_Mode_with_pattern pm_Mode_with_pattern ct_Mode_with_pattern : Value} {cd_Mode_with_pattern : Value} {tk_Mode_MOST : Tok} {cd_Mode : PySem.ClassData} {od_LineD_initD : Option Addr} {an_LineD_initD : Option Addr} {sl_LineD_initD : Array (Option Value)} {oc_LineD_initD kV_LineD_initD dc_LineD_initD pm_LineD_initD ct_LineD_initD cd_LineD_initD : Value} {its_DFL : Array Value} {tn_DFL : Nat} {tod_DFL : Option Addr} {tsl_DFL : Array (Option Value)} {od_Line_lets_names : Option Addr} {an_Line_lets_names : Option Addr} {sl_Line_lets_names : Array (Option Value)} {oc_Line_lets_names kV_Line_lets_names dc_Line_lets_names pm_Line_lets_names ct_Line_lets_names : Value} {cd_Line_lets_names : Value} {od_Line_lets : Option Addr} {an_Line_lets : Option Addr} {sl_Line_lets : Array (Option Value)} {oc_Line_lets kV_Line_lets dc_Line_lets pm_Line_lets ct_Line_lets : Value} {cd_Line_lets : Value} {od_Line_patterns : Option Addr} {an_Line_patterns : Option Addr} {sl_Line_patterns : Array (Option Value)} {oc_Line_patterns kV_Line_patterns dc_Line_patterns pm_Line_patterns ct_Line_patterns : Value} {cd_Line_patterns : Value} {cd_Line : PySem.ClassData} {its_FORMS : Array Value} {tn_FORMS : Nat} {tod_FORMS : Option Addr} {tsl_FORMS : Array (Option Value)} {its_PATTERNS : Array Value} {tn_PATTERNS : Nat} {tod_PATTERNS : Option Addr} {tsl_PATTERNS : Array (Option Value)} {tk_LT : Tok} {es_WG : Array DictEntry} {n_WG : Nat} {tkr tkw tkx : Tok} {od_law : Option Addr} {an_law : Option Addr} {sl_law : Array (Option Value)} {oc_law kV_law dc_law pm_law ct_law : Value} {cd_law : Value}
    (z_isinstance : PySem.W.nsIn K mainGlobals "isinstance" = some none)
    (z_int : PySem.W.nsIn K mainGlobals "int" = some none)
    (z_str : PySem.W.nsIn K mainGlobals "str" = some none)
    (z_bool : PySem.W.nsIn K mainGlobals "bool" = some none)
    (z_list : PySem.W.nsIn K mainGlobals "list" = some none)
    (z_len : PySem.W.nsIn K mainGlobals "len" = some none)
    (z_abs : PySem.W.nsIn K mainGlobals "abs" = some none)
    (z_range : PySem.W.nsIn K mainGlobals "range" = some none)
    (z_tuple : PySem.W.nsIn K mainGlobals "tuple" = some none)
    (z_all : PySem.W.nsIn K mainGlobals "all" = some none)
    (z_set : PySem.W.nsIn K mainGlobals "set" = some none)
    (z_sorted : PySem.W.nsIn K mainGlobals "sorted" = some none)
    (z_repr : PySem.W.nsIn K mainGlobals "repr" = some none)
    (a_is_whole : PySem.W.nsIn K mainGlobals "is_whole" = some (some (.ref f_is_whole)))
    (l_is_whole : K.lookup f_is_whole = some ⟨oc_is_whole, od_is_whole, .func (PySem.W.fnOf "is_whole" "is_whole" (defArgs s_is_whole) (defBody s_is_whole) (defScope s_is_whole) .none kV_is_whole dc_is_whole pm_is_whole an_is_whole cd_is_whole ct_is_whole), sl_is_whole⟩)
    (co_is_whole : PySem.W.codeIn K cd_is_whole "is_whole" = true)
    (kp_is_whole : PySem.W.keepIn K (.ref f_is_whole) = true)
    (a_is_whole_to : PySem.W.nsIn K mainGlobals "is_whole_to" = some (some (.ref f_is_whole_to)))
    (l_is_whole_to : K.lookup f_is_whole_to = some ⟨oc_is_whole_to, od_is_whole_to, .func (PySem.W.fnOf "is_whole_to" "is_whole_to" (defArgs s_is_whole_to) (defBody s_is_whole_to) (defScope s_is_whole_to) .none kV_is_whole_to dc_is_whole_to pm_is_whole_to an_is_whole_to cd_is_whole_to ct_is_whole_to), sl_is_whole_to⟩)
    (co_is_whole_to : PySem.W.codeIn K cd_is_whole_to "is_whole_to" = true)
    (kp_is_whole_to : PySem.W.keepIn K (.ref f_is_whole_to) = true)
    (a_is_name : PySem.W.nsIn K mainGlobals "is_name" = some (some (.ref f_is_name)))
    (l_is_name : K.lookup f_is_name = some ⟨oc_is_name, od_is_name, .func (PySem.W.fnOf "is_name" "is_name" (defArgs s_is_name) (defBody s_is_name) (defScope s_is_name) .none kV_is_name dc_is_name pm_is_name an_is_name cd_is_name ct_is_name), sl_is_name⟩)
    (co_is_name : PySem.W.codeIn K cd_is_name "is_name" = true)
    (kp_is_name : PySem.W.keepIn K (.ref f_is_name) = true)
    (a_are_unlike_names : PySem.W.nsIn K mainGlobals "are_unlike_names" = some (some (.ref f_are_unlike_names)))
    (l_are_unlike_names : K.lookup f_are_unlike_names = some ⟨oc_are_unlike_names, od_are_unlike_names, .func (PySem.W.fnOf "are_unlike_names" "are_unlike_names" (defArgs s_are_unlike_names) (defBody s_are_unlike_names) (defScope s_are_unlike_names) .none kV_are_unlike_names dc_are_unlike_names pm_are_unlike_names an_are_unlike_names cd_are_unlike_names ct_are_unlike_names), sl_are_unlike_names⟩)
    (co_are_unlike_names : PySem.W.codeIn K cd_are_unlike_names "are_unlike_names" = true)
    (kp_are_unlike_names : PySem.W.keepIn K (.ref f_are_unlike_names) = true)
    (a_pattern_in : PySem.W.nsIn K mainGlobals "pattern_in" = some (some (.ref f_pattern_in)))
    (l_pattern_in : K.lookup f_pattern_in = some ⟨oc_pattern_in, od_pattern_in, .func (PySem.W.fnOf "pattern_in" "pattern_in" (defArgs s_pattern_in) (defBody s_pattern_in) (defScope s_pattern_in) .none kV_pattern_in dc_pattern_in pm_pattern_in an_pattern_in cd_pattern_in ct_pattern_in), sl_pattern_in⟩)
    (co_pattern_in : PySem.W.codeIn K cd_pattern_in "pattern_in" = true)
    (kp_pattern_in : PySem.W.keepIn K (.ref f_pattern_in) = true)
    (a_bits_of : PySem.W.nsIn K mainGlobals "bits_of" = some (some (.ref f_bits_of)))
    (l_bits_of : K.lookup f_bits_of = some ⟨oc_bits_of, od_bits_of, .func (PySem.W.fnOf "bits_of" "bits_of" (defArgs s_bits_of) (defBody s_bits_of) (defScope s_bits_of) .none kV_bits_of dc_bits_of pm_bits_of an_bits_of cd_bits_of ct_bits_of), sl_bits_of⟩)
    (co_bits_of : PySem.W.codeIn K cd_bits_of "bits_of" = true)
    (kp_bits_of : PySem.W.keepIn K (.ref f_bits_of) = true)
    (a_weight_of : PySem.W.nsIn K mainGlobals "weight_of" = some (some (.ref f_weight_of)))
    (l_weight_of : K.lookup f_weight_of = some ⟨oc_weight_of, od_weight_of, .func (PySem.W.fnOf "weight_of" "weight_of" (defArgs s_weight_of) (defBody s_weight_of) (defScope s_weight_of) .none kV_weight_of dc_weight_of pm_weight_of an_weight_of cd_weight_of ct_weight_of), sl_weight_of⟩)
    (co_weight_of : PySem.W.codeIn K cd_weight_of "weight_of" = true)
    (kp_weight_of : PySem.W.keepIn K (.ref f_weight_of) = true)
    (a_number_of : PySem.W.nsIn K mainGlobals "number_of" = some (some (.ref f_number_of)))
    (l_number_of : K.lookup f_number_of = some ⟨oc_number_of, od_number_of, .func (PySem.W.fnOf "number_of" "number_of" (defArgs s_number_of) (defBody s_number_of) (defScope s_number_of) .none kV_number_of dc_number_of pm_number_of an_number_of cd_number_of ct_number_of), sl_number_of⟩)
    (co_number_of : PySem.W.codeIn K cd_number_of "number_of" = true)
    (kp_number_of : PySem.W.keepIn K (.ref f_number_of) = true)
    (a_are_told : PySem.W.nsIn K mainGlobals "are_told" = some (some (.ref f_are_told)))
    (l_are_told : K.lookup f_are_told = some ⟨oc_are_told, od_are_told, .func (PySem.W.fnOf "are_told" "are_told" (defArgs s_are_told) (defBody s_are_told) (defScope s_are_told) .none kV_are_told dc_are_told pm_are_told an_are_told cd_are_told ct_are_told), sl_are_told⟩)
    (co_are_told : PySem.W.codeIn K cd_are_told "are_told" = true)
    (kp_are_told : PySem.W.keepIn K (.ref f_are_told) = true)
    (a_is_mode : PySem.W.nsIn K mainGlobals "is_mode" = some (some (.ref f_is_mode)))
    (l_is_mode : K.lookup f_is_mode = some ⟨oc_is_mode, od_is_mode, .func (PySem.W.fnOf "is_mode" "is_mode" (defArgs s_is_mode) (defBody s_is_mode) (defScope s_is_mode) .none kV_is_mode dc_is_mode pm_is_mode an_is_mode cd_is_mode ct_is_mode), sl_is_mode⟩)
    (co_is_mode : PySem.W.codeIn K cd_is_mode "is_mode" = true)
    (kp_is_mode : PySem.W.keepIn K (.ref f_is_mode) = true)
    (a_ascending : PySem.W.nsIn K mainGlobals "ascending" = some (some (.ref f_ascending)))
    (l_ascending : K.lookup f_ascending = some ⟨oc_ascending, od_ascending, .func (PySem.W.fnOf "ascending" "ascending" (defArgs s_ascending) (defBody s_ascending) (defScope s_ascending) .none kV_ascending dc_ascending pm_ascending an_ascending cd_ascending ct_ascending), sl_ascending⟩)
    (co_ascending : PySem.W.codeIn K cd_ascending "ascending" = true)
    (kp_ascending : PySem.W.keepIn K (.ref f_ascending) = true)
    (a__law_pen : PySem.W.nsIn K mainGlobals "_law_pen" = some (some (.ref f__law_pen)))
    (l__law_pen : K.lookup f__law_pen = some ⟨oc__law_pen, od__law_pen, .func (PySem.W.fnOf "_law_pen" "_law_pen" (defArgs s__law_pen) (defBody s__law_pen) (defScope s__law_pen) .none kV__law_pen dc__law_pen pm__law_pen an__law_pen cd__law_pen ct__law_pen), sl__law_pen⟩)
    (co__law_pen : PySem.W.codeIn K cd__law_pen "_law_pen" = true)
    (kp__law_pen : PySem.W.keepIn K (.ref f__law_pen) = true)
    (a__law_draw : PySem.W.nsIn K mainGlobals "_law_draw" = some (some (.ref f__law_draw)))
    (l__law_draw : K.lookup f__law_draw = some ⟨oc__law_draw, od__law_draw, .func (PySem.W.fnOf "_law_draw" "_law_draw" (defArgs s__law_draw) (defBody s__law_draw) (defScope s__law_draw) .none kV__law_draw dc__law_draw pm__law_draw an__law_draw cd__law_draw ct__law_draw), sl__law_draw⟩)
    (co__law_draw : PySem.W.codeIn K cd__law_draw "_law_draw" = true)
    (kp__law_draw : PySem.W.keepIn K (.ref f__law_draw) = true)
    (a__law_pick : PySem.W.nsIn K mainGlobals "_law_pick" = some (some (.ref f__law_pick)))
    (l__law_pick : K.lookup f__law_pick = some ⟨oc__law_pick, od__law_pick, .func (PySem.W.fnOf "_law_pick" "_law_pick" (defArgs s__law_pick) (defBody s__law_pick) (defScope s__law_pick) .none kV__law_pick dc__law_pick pm__law_pick an__law_pick cd__law_pick ct__law_pick), sl__law_pick⟩)
    (co__law_pick : PySem.W.codeIn K cd__law_pick "_law_pick" = true)
    (kp__law_pick : PySem.W.keepIn K (.ref f__law_pick) = true)
    (a__law_names : PySem.W.nsIn K mainGlobals "_law_names" = some (some (.ref f__law_names)))
    (l__law_names : K.lookup f__law_names = some ⟨oc__law_names, od__law_names, .func (PySem.W.fnOf "_law_names" "_law_names" (defArgs s__law_names) (defBody s__law_names) (defScope s__law_names) .none kV__law_names dc__law_names pm__law_names an__law_names cd__law_names ct__law_names), sl__law_names⟩)
    (co__law_names : PySem.W.codeIn K cd__law_names "_law_names" = true)
    (kp__law_names : PySem.W.keepIn K (.ref f__law_names) = true)
    (a__law_line : PySem.W.nsIn K mainGlobals "_law_line" = some (some (.ref f__law_line)))
    (l__law_line : K.lookup f__law_line = some ⟨oc__law_line, od__law_line, .func (PySem.W.fnOf "_law_line" "_law_line" (defArgs s__law_line) (defBody s__law_line) (defScope s__law_line) .none kV__law_line dc__law_line pm__law_line an__law_line cd__law_line ct__law_line), sl__law_line⟩)
    (co__law_line : PySem.W.codeIn K cd__law_line "_law_line" = true)
    (kp__law_line : PySem.W.keepIn K (.ref f__law_line) = true)
    (a__law_line_made : PySem.W.nsIn K mainGlobals "_law_line_made" = some (some (.ref f__law_line_made)))
    (l__law_line_made : K.lookup f__law_line_made = some ⟨oc__law_line_made, od__law_line_made, .func (PySem.W.fnOf "_law_line_made" "_law_line_made" (defArgs s__law_line_made) (defBody s__law_line_made) (defScope s__law_line_made) .none kV__law_line_made dc__law_line_made pm__law_line_made an__law_line_made cd__law_line_made ct__law_line_made), sl__law_line_made⟩)
    (co__law_line_made : PySem.W.codeIn K cd__law_line_made "_law_line_made" = true)
    (kp__law_line_made : PySem.W.keepIn K (.ref f__law_line_made) = true)
    (a__law_lets : PySem.W.nsIn K mainGlobals "_law_lets" = some (some (.ref f__law_lets)))
    (l__law_lets : K.lookup f__law_lets = some ⟨oc__law_lets, od__law_lets, .func (PySem.W.fnOf "_law_lets" "_law_lets" (defArgs s__law_lets) (defBody s__law_lets) (defScope s__law_lets) .none kV__law_lets dc__law_lets pm__law_lets an__law_lets cd__law_lets ct__law_lets), sl__law_lets⟩)
    (co__law_lets : PySem.W.codeIn K cd__law_lets "_law_lets" = true)
    (kp__law_lets : PySem.W.keepIn K (.ref f__law_lets) = true)
    (a__law_patterns : PySem.W.nsIn K mainGlobals "_law_patterns" = some (some (.ref f__law_patterns)))
    (l__law_patterns : K.lookup f__law_patterns = some ⟨oc__law_patterns, od__law_patterns, .func (PySem.W.fnOf "_law_patterns" "_law_patterns" (defArgs s__law_patterns) (defBody s__law_patterns) (defScope s__law_patterns) .none kV__law_patterns dc__law_patterns pm__law_patterns an__law_patterns cd__law_patterns ct__law_patterns), sl__law_patterns⟩)
    (co__law_patterns : PySem.W.codeIn K cd__law_patterns "_law_patterns" = true)
    (kp__law_patterns : PySem.W.keepIn K (.ref f__law_patterns) = true)
    (a__law_lets_right : PySem.W.nsIn K mainGlobals "_law_lets_right" = some (some (.ref f__law_lets_right)))
    (l__law_lets_right : K.lookup f__law_lets_right = some ⟨oc__law_lets_right, od__law_lets_right, .func (PySem.W.fnOf "_law_lets_right" "_law_lets_right" (defArgs s__law_lets_right) (defBody s__law_lets_right) (defScope s__law_lets_right) .none kV__law_lets_right dc__law_lets_right pm__law_lets_right an__law_lets_right cd__law_lets_right ct__law_lets_right), sl__law_lets_right⟩)
    (co__law_lets_right : PySem.W.codeIn K cd__law_lets_right "_law_lets_right" = true)
    (kp__law_lets_right : PySem.W.keepIn K (.ref f__law_lets_right) = true)
    (a__law_patterns_right : PySem.W.nsIn K mainGlobals "_law_patterns_right" = some (some (.ref f__law_patterns_right)))
    (l__law_patterns_right : K.lookup f__law_patterns_right = some ⟨oc__law_patterns_right, od__law_patterns_right, .func (PySem.W.fnOf "_law_patterns_right" "_law_patterns_right" (defArgs s__law_patterns_right) (defBody s__law_patterns_right) (defScope s__law_patterns_right) .none kV__law_patterns_right dc__law_patterns_right pm__law_patterns_right an__law_patterns_right cd__law_patterns_right ct__law_patterns_right), sl__law_patterns_right⟩)
    (co__law_patterns_right : PySem.W.codeIn K cd__law_patterns_right "_law_patterns_right" = true)
    (kp__law_patterns_right : PySem.W.keepIn K (.ref f__law_patterns_right) = true)
    (a_Mode : PySem.W.nsIn K mainGlobals "Mode" = some (some (.ref f_Mode)))
    (pg_Mode : PySem.W.plainGet K f_Mode Str.empty = true)
    (hd_Mode : PySem.W.hasDictIn K f_Mode = true)
    (po_Mode : PySem.W.plainOver K f_Mode = true)
    (sa_Mode : PySem.W.findIn K (.ref f_Mode) "__setattr__" = some (some (.builtin "object.__setattr__")))
    (n_number_Mode : PySem.W.findIn K (.ref f_Mode) "_number" = some none)
    (at_ModeD_initD : PySem.W.findIn K (.ref f_Mode) "__init__" = some (some (.ref f_ModeD_initD)))
    (fi_ModeD_initD : PySem.W.isFn K (.ref f_ModeD_initD) = true)
    (mk_Mode : PySem.W.makesIn K f_Mode = true)
    (kc_Mode : PySem.W.keepIn K (.ref f_Mode) = true)
    (l_ModeD_initD : K.lookup f_ModeD_initD = some ⟨oc_ModeD_initD, od_ModeD_initD, .func (PySem.W.fnOf "__init__" "Mode.__init__" (defArgs s_ModeD_initD) (defBody s_ModeD_initD) (defScope s_ModeD_initD) .none kV_ModeD_initD dc_ModeD_initD pm_ModeD_initD an_ModeD_initD cd_ModeD_initD ct_ModeD_initD), sl_ModeD_initD⟩)
    (co_ModeD_initD : PySem.W.codeIn K cd_ModeD_initD "Mode.__init__" = true)
    (kp_ModeD_initD : PySem.W.keepIn K (.ref f_ModeD_initD) = true)
    (at_Mode_number : PySem.W.findIn K (.ref f_Mode) "number" = some (some (.ref p_Mode_number)))
    (ge_Mode_number : PySem.W.specialIn K (.ref p_Mode_number) "__get__" = some (some (.builtin "property.__get__")))
    (ta_Mode_number : PySem.W.takesIn K (.ref p_Mode_number) = some true)
    (rc_Mode_number : PySem.W.recIn K p_Mode_number "property" = some (.ref f_Mode_number :: re_Mode_number))
    (l_Mode_number : K.lookup f_Mode_number = some ⟨oc_Mode_number, od_Mode_number, .func (PySem.W.fnOf "number" "Mode.number" (defArgs s_Mode_number) (defBody s_Mode_number) (defScope s_Mode_number) .none kV_Mode_number dc_Mode_number pm_Mode_number an_Mode_number cd_Mode_number ct_Mode_number), sl_Mode_number⟩)
    (co_Mode_number : PySem.W.codeIn K cd_Mode_number "Mode.number" = true)
    (kp_Mode_number : PySem.W.keepIn K (.ref f_Mode_number) = true)
    (at_Mode_with_pattern : PySem.W.findIn K (.ref f_Mode) "with_pattern" = some (some (.ref f_Mode_with_pattern)))
    (fi_Mode_with_pattern : PySem.W.isFn K (.ref f_Mode_with_pattern) = true)
    (l_Mode_with_pattern : K.lookup f_Mode_with_pattern = some ⟨oc_Mode_with_pattern, od_Mode_with_pattern, .func (PySem.W.fnOf "with_pattern" "Mode.with_pattern" (defArgs s_Mode_with_pattern) (defBody s_Mode_with_pattern) (defScope s_Mode_with_pattern) .none kV_Mode_with_pattern dc_Mode_with_pattern pm_Mode_with_pattern an_Mode_with_pattern cd_Mode_with_pattern ct_Mode_with_pattern), sl_Mode_with_pattern⟩)
    (co_Mode_with_pattern : PySem.W.codeIn K cd_Mode_with_pattern "Mode.with_pattern" = true)
    (kp_Mode_with_pattern : PySem.W.keepIn K (.ref f_Mode_with_pattern) = true)
    (rd_Mode : PySem.W.readsIn K f_Mode (.type "type") = true)
    (ga_Mode : PySem.W.specialIn K (.ref f_Mode) "__getattribute__" = some (some (.builtin "type.__getattribute__")))
    (cv_Mode_MOST : PySem.W.findCls K (.ref f_Mode) (.type "type") "MOST" = some (.val (.int 511 tk_Mode_MOST)))
    (ia_Mode : PySem.W.findIn K (.ref f_Mode) "__class__" = some (some (.builtin "object.__class__")))
    (im_Mode : PySem.W.mroIn K f_Mode (.type "object") = some true)
    (ci_Mode : PySem.W.clsIn K f_Mode = some cd_Mode)
    (ti_Mode : PySem.W.typeIn K (.ref f_Mode) = some (.type "type"))
    (su_Mode : PySem.W.subIn K (.type "int") (.ref f_Mode) = some false)
    (a_Line : PySem.W.nsIn K mainGlobals "Line" = some (some (.ref f_Line)))
    (pg_Line : PySem.W.plainGet K f_Line Str.empty = true)
    (hd_Line : PySem.W.hasDictIn K f_Line = true)
    (po_Line : PySem.W.plainOver K f_Line = true)
    (sa_Line : PySem.W.findIn K (.ref f_Line) "__setattr__" = some (some (.builtin "object.__setattr__")))
    (n_form_Line : PySem.W.findIn K (.ref f_Line) "_form" = some none)
    (n_owners_Line : PySem.W.findIn K (.ref f_Line) "_owners" = some none)
    (n_groups_Line : PySem.W.findIn K (.ref f_Line) "_groups" = some none)
    (n_must_Line : PySem.W.findIn K (.ref f_Line) "_must" = some none)
    (n_never_Line : PySem.W.findIn K (.ref f_Line) "_never" = some none)
    (at_LineD_initD : PySem.W.findIn K (.ref f_Line) "__init__" = some (some (.ref f_LineD_initD)))
    (fi_LineD_initD : PySem.W.isFn K (.ref f_LineD_initD) = true)
    (mk_Line : PySem.W.makesIn K f_Line = true)
    (kc_Line : PySem.W.keepIn K (.ref f_Line) = true)
    (l_LineD_initD : K.lookup f_LineD_initD = some ⟨oc_LineD_initD, od_LineD_initD, .func (PySem.W.fnOf "__init__" "Line.__init__" (defArgs s_LineD_initD) (defBody s_LineD_initD) (defScope s_LineD_initD) (.ref k_DFL) kV_LineD_initD dc_LineD_initD pm_LineD_initD an_LineD_initD cd_LineD_initD ct_LineD_initD), sl_LineD_initD⟩)
    (co_LineD_initD : PySem.W.codeIn K cd_LineD_initD "Line.__init__" = true)
    (kp_LineD_initD : PySem.W.keepIn K (.ref f_LineD_initD) = true)
    (lt_DFL : K.lookup k_DFL = some ⟨.type "tuple", tod_DFL, .seq its_DFL tn_DFL, tsl_DFL⟩)
    (vl_DFL : Vals [.non, .non, .int 0, .int 0] its_DFL.toList)
    (at_Line_lets_names : PySem.W.findIn K (.ref f_Line) "lets_names" = some (some (.ref f_Line_lets_names)))
    (fi_Line_lets_names : PySem.W.isFn K (.ref f_Line_lets_names) = true)
    (l_Line_lets_names : K.lookup f_Line_lets_names = some ⟨oc_Line_lets_names, od_Line_lets_names, .func (PySem.W.fnOf "lets_names" "Line.lets_names" (defArgs s_Line_lets_names) (defBody s_Line_lets_names) (defScope s_Line_lets_names) .none kV_Line_lets_names dc_Line_lets_names pm_Line_lets_names an_Line_lets_names cd_Line_lets_names ct_Line_lets_names), sl_Line_lets_names⟩)
    (co_Line_lets_names : PySem.W.codeIn K cd_Line_lets_names "Line.lets_names" = true)
    (kp_Line_lets_names : PySem.W.keepIn K (.ref f_Line_lets_names) = true)
    (at_Line_lets : PySem.W.findIn K (.ref f_Line) "lets" = some (some (.ref f_Line_lets)))
    (fi_Line_lets : PySem.W.isFn K (.ref f_Line_lets) = true)
    (l_Line_lets : K.lookup f_Line_lets = some ⟨oc_Line_lets, od_Line_lets, .func (PySem.W.fnOf "lets" "Line.lets" (defArgs s_Line_lets) (defBody s_Line_lets) (defScope s_Line_lets) .none kV_Line_lets dc_Line_lets pm_Line_lets an_Line_lets cd_Line_lets ct_Line_lets), sl_Line_lets⟩)
    (co_Line_lets : PySem.W.codeIn K cd_Line_lets "Line.lets" = true)
    (kp_Line_lets : PySem.W.keepIn K (.ref f_Line_lets) = true)
    (at_Line_patterns : PySem.W.findIn K (.ref f_Line) "patterns" = some (some (.ref f_Line_patterns)))
    (fi_Line_patterns : PySem.W.isFn K (.ref f_Line_patterns) = true)
    (l_Line_patterns : K.lookup f_Line_patterns = some ⟨oc_Line_patterns, od_Line_patterns, .func (PySem.W.fnOf "patterns" "Line.patterns" (defArgs s_Line_patterns) (defBody s_Line_patterns) (defScope s_Line_patterns) .none kV_Line_patterns dc_Line_patterns pm_Line_patterns an_Line_patterns cd_Line_patterns ct_Line_patterns), sl_Line_patterns⟩)
    (co_Line_patterns : PySem.W.codeIn K cd_Line_patterns "Line.patterns" = true)
    (kp_Line_patterns : PySem.W.keepIn K (.ref f_Line_patterns) = true)
    (ia_Line : PySem.W.findIn K (.ref f_Line) "__class__" = some (some (.builtin "object.__class__")))
    (im_Line : PySem.W.mroIn K f_Line (.type "object") = some true)
    (ci_Line : PySem.W.clsIn K f_Line = some cd_Line)
    (ti_Line : PySem.W.typeIn K (.ref f_Line) = some (.type "type"))
    (su_Line : PySem.W.subIn K (.type "int") (.ref f_Line) = some false)
    (in0 : PySem.W.specialIn K (.builtin "object.__class__") "__get__" = some (some (.builtin "getset_descriptor.__get__")))
    (it0 : PySem.W.takesIn K (.builtin "object.__class__") = some true)
    (a_FORMS : PySem.W.nsIn K mainGlobals "FORMS" = some (some (.ref k_FORMS)))
    (lt_FORMS : K.lookup k_FORMS = some ⟨.type "tuple", tod_FORMS, .seq its_FORMS tn_FORMS, tsl_FORMS⟩)
    (sz_FORMS : its_FORMS.size ≤ sizeLine)
    (vl_FORMS : Vals [.str "file", .str "folder"] its_FORMS.toList)
    (a_PATTERNS : PySem.W.nsIn K mainGlobals "PATTERNS" = some (some (.ref k_PATTERNS)))
    (lt_PATTERNS : K.lookup k_PATTERNS = some ⟨.type "tuple", tod_PATTERNS, .seq its_PATTERNS tn_PATTERNS, tsl_PATTERNS⟩)
    (sz_PATTERNS : its_PATTERNS.size ≤ sizeLine)
    (vl_PATTERNS : Vals ([0, 1, 2, 3, 4, 5, 6, 7].map V.int) its_PATTERNS.toList)
    (a_LETTERS : PySem.W.nsIn K mainGlobals "LETTERS" = some (some (.str "abcdefghijklmnopqrstuvwxyz" tk_LT)))
    (a_WEIGHTS : PySem.W.nsIn K mainGlobals "WEIGHTS" = some (some (.ref k_WEIGHTS)))
    (ld_WG : K.lookup k_WEIGHTS = some ⟨.type "dict", none, .dict es_WG n_WG, #[]⟩)
    (kl_WG : PySem.W.KeysLit w.params es_WG.toList)
    (lw_WG : (k_WEIGHTS == sysModules) = false)
    (er_WG : PySem.W.nsIn K k_WEIGHTS "r" = some (some (.int 4 tkr)))
    (ew_WG : PySem.W.nsIn K k_WEIGHTS "w" = some (some (.int 2 tkw)))
    (ex_WG : PySem.W.nsIn K k_WEIGHTS "x" = some (some (.int 1 tkx)))
    (a_law : PySem.W.nsIn K mainGlobals "law" = some (some (.ref f_law)))
    (l_law : K.lookup f_law = some ⟨oc_law, od_law, .func (PySem.W.fnOf "law" "law" (defArgs s_law) (defBody s_law) (defScope s_law) .none kV_law dc_law pm_law an_law cd_law ct_law), sl_law⟩)
    (co_law : PySem.W.codeIn K cd_law "law" = true)
    (kp_law : PySem.W.keepIn K (.ref f_law) = true)
    : KD.LawTop l w K "_law_script" mg fa h := by
  have e := hfa.symm.trans (PySem.W.mg_of X G a_law)
  obtain rfl : f_law = fa := by cases e; rfl
  have T : Txt w K mg { f_is_whole := f_is_whole, d_is_whole := PySem.W.fnOf "is_whole" "is_whole" (defArgs s_is_whole) (defBody s_is_whole) (defScope s_is_whole) .none kV_is_whole dc_is_whole pm_is_whole an_is_whole cd_is_whole ct_is_whole, f_is_whole_to := f_is_whole_to, d_is_whole_to := PySem.W.fnOf "is_whole_to" "is_whole_to" (defArgs s_is_whole_to) (defBody s_is_whole_to) (defScope s_is_whole_to) .none kV_is_whole_to dc_is_whole_to pm_is_whole_to an_is_whole_to cd_is_whole_to ct_is_whole_to, f_is_name := f_is_name, d_is_name := PySem.W.fnOf "is_name" "is_name" (defArgs s_is_name) (defBody s_is_name) (defScope s_is_name) .none kV_is_name dc_is_name pm_is_name an_is_name cd_is_name ct_is_name, f_are_unlike_names := f_are_unlike_names, d_are_unlike_names := PySem.W.fnOf "are_unlike_names" "are_unlike_names" (defArgs s_are_unlike_names) (defBody s_are_unlike_names) (defScope s_are_unlike_names) .none kV_are_unlike_names dc_are_unlike_names pm_are_unlike_names an_are_unlike_names cd_are_unlike_names ct_are_unlike_names, f_pattern_in := f_pattern_in, d_pattern_in := PySem.W.fnOf "pattern_in" "pattern_in" (defArgs s_pattern_in) (defBody s_pattern_in) (defScope s_pattern_in) .none kV_pattern_in dc_pattern_in pm_pattern_in an_pattern_in cd_pattern_in ct_pattern_in, f_bits_of := f_bits_of, d_bits_of := PySem.W.fnOf "bits_of" "bits_of" (defArgs s_bits_of) (defBody s_bits_of) (defScope s_bits_of) .none kV_bits_of dc_bits_of pm_bits_of an_bits_of cd_bits_of ct_bits_of, f_weight_of := f_weight_of, d_weight_of := PySem.W.fnOf "weight_of" "weight_of" (defArgs s_weight_of) (defBody s_weight_of) (defScope s_weight_of) .none kV_weight_of dc_weight_of pm_weight_of an_weight_of cd_weight_of ct_weight_of, f_number_of := f_number_of, d_number_of := PySem.W.fnOf "number_of" "number_of" (defArgs s_number_of) (defBody s_number_of) (defScope s_number_of) .none kV_number_of dc_number_of pm_number_of an_number_of cd_number_of ct_number_of, f_are_told := f_are_told, d_are_told := PySem.W.fnOf "are_told" "are_told" (defArgs s_are_told) (defBody s_are_told) (defScope s_are_told) .none kV_are_told dc_are_told pm_are_told an_are_told cd_are_told ct_are_told, f_is_mode := f_is_mode, d_is_mode := PySem.W.fnOf "is_mode" "is_mode" (defArgs s_is_mode) (defBody s_is_mode) (defScope s_is_mode) .none kV_is_mode dc_is_mode pm_is_mode an_is_mode cd_is_mode ct_is_mode, f_ascending := f_ascending, d_ascending := PySem.W.fnOf "ascending" "ascending" (defArgs s_ascending) (defBody s_ascending) (defScope s_ascending) .none kV_ascending dc_ascending pm_ascending an_ascending cd_ascending ct_ascending, f__law_pen := f__law_pen, d__law_pen := PySem.W.fnOf "_law_pen" "_law_pen" (defArgs s__law_pen) (defBody s__law_pen) (defScope s__law_pen) .none kV__law_pen dc__law_pen pm__law_pen an__law_pen cd__law_pen ct__law_pen, f__law_draw := f__law_draw, d__law_draw := PySem.W.fnOf "_law_draw" "_law_draw" (defArgs s__law_draw) (defBody s__law_draw) (defScope s__law_draw) .none kV__law_draw dc__law_draw pm__law_draw an__law_draw cd__law_draw ct__law_draw, f__law_pick := f__law_pick, d__law_pick := PySem.W.fnOf "_law_pick" "_law_pick" (defArgs s__law_pick) (defBody s__law_pick) (defScope s__law_pick) .none kV__law_pick dc__law_pick pm__law_pick an__law_pick cd__law_pick ct__law_pick, f__law_names := f__law_names, d__law_names := PySem.W.fnOf "_law_names" "_law_names" (defArgs s__law_names) (defBody s__law_names) (defScope s__law_names) .none kV__law_names dc__law_names pm__law_names an__law_names cd__law_names ct__law_names, f__law_line := f__law_line, d__law_line := PySem.W.fnOf "_law_line" "_law_line" (defArgs s__law_line) (defBody s__law_line) (defScope s__law_line) .none kV__law_line dc__law_line pm__law_line an__law_line cd__law_line ct__law_line, f__law_line_made := f__law_line_made, d__law_line_made := PySem.W.fnOf "_law_line_made" "_law_line_made" (defArgs s__law_line_made) (defBody s__law_line_made) (defScope s__law_line_made) .none kV__law_line_made dc__law_line_made pm__law_line_made an__law_line_made cd__law_line_made ct__law_line_made, f__law_lets := f__law_lets, d__law_lets := PySem.W.fnOf "_law_lets" "_law_lets" (defArgs s__law_lets) (defBody s__law_lets) (defScope s__law_lets) .none kV__law_lets dc__law_lets pm__law_lets an__law_lets cd__law_lets ct__law_lets, f__law_patterns := f__law_patterns, d__law_patterns := PySem.W.fnOf "_law_patterns" "_law_patterns" (defArgs s__law_patterns) (defBody s__law_patterns) (defScope s__law_patterns) .none kV__law_patterns dc__law_patterns pm__law_patterns an__law_patterns cd__law_patterns ct__law_patterns, f__law_lets_right := f__law_lets_right, d__law_lets_right := PySem.W.fnOf "_law_lets_right" "_law_lets_right" (defArgs s__law_lets_right) (defBody s__law_lets_right) (defScope s__law_lets_right) .none kV__law_lets_right dc__law_lets_right pm__law_lets_right an__law_lets_right cd__law_lets_right ct__law_lets_right, f__law_patterns_right := f__law_patterns_right, d__law_patterns_right := PySem.W.fnOf "_law_patterns_right" "_law_patterns_right" (defArgs s__law_patterns_right) (defBody s__law_patterns_right) (defScope s__law_patterns_right) .none kV__law_patterns_right dc__law_patterns_right pm__law_patterns_right an__law_patterns_right cd__law_patterns_right ct__law_patterns_right, f_Mode := f_Mode, f_ModeD_initD := f_ModeD_initD, d_ModeD_initD := PySem.W.fnOf "__init__" "Mode.__init__" (defArgs s_ModeD_initD) (defBody s_ModeD_initD) (defScope s_ModeD_initD) .none kV_ModeD_initD dc_ModeD_initD pm_ModeD_initD an_ModeD_initD cd_ModeD_initD ct_ModeD_initD, f_Mode_number := f_Mode_number, d_Mode_number := PySem.W.fnOf "number" "Mode.number" (defArgs s_Mode_number) (defBody s_Mode_number) (defScope s_Mode_number) .none kV_Mode_number dc_Mode_number pm_Mode_number an_Mode_number cd_Mode_number ct_Mode_number, p_Mode_number := p_Mode_number, f_Mode_with_pattern := f_Mode_with_pattern, d_Mode_with_pattern := PySem.W.fnOf "with_pattern" "Mode.with_pattern" (defArgs s_Mode_with_pattern) (defBody s_Mode_with_pattern) (defScope s_Mode_with_pattern) .none kV_Mode_with_pattern dc_Mode_with_pattern pm_Mode_with_pattern an_Mode_with_pattern cd_Mode_with_pattern ct_Mode_with_pattern, f_Line := f_Line, f_LineD_initD := f_LineD_initD, d_LineD_initD := PySem.W.fnOf "__init__" "Line.__init__" (defArgs s_LineD_initD) (defBody s_LineD_initD) (defScope s_LineD_initD) (.ref k_DFL) kV_LineD_initD dc_LineD_initD pm_LineD_initD an_LineD_initD cd_LineD_initD ct_LineD_initD, f_Line_lets_names := f_Line_lets_names, d_Line_lets_names := PySem.W.fnOf "lets_names" "Line.lets_names" (defArgs s_Line_lets_names) (defBody s_Line_lets_names) (defScope s_Line_lets_names) .none kV_Line_lets_names dc_Line_lets_names pm_Line_lets_names an_Line_lets_names cd_Line_lets_names ct_Line_lets_names, f_Line_lets := f_Line_lets, d_Line_lets := PySem.W.fnOf "lets" "Line.lets" (defArgs s_Line_lets) (defBody s_Line_lets) (defScope s_Line_lets) .none kV_Line_lets dc_Line_lets pm_Line_lets an_Line_lets cd_Line_lets ct_Line_lets, f_Line_patterns := f_Line_patterns, d_Line_patterns := PySem.W.fnOf "patterns" "Line.patterns" (defArgs s_Line_patterns) (defBody s_Line_patterns) (defScope s_Line_patterns) .none kV_Line_patterns dc_Line_patterns pm_Line_patterns an_Line_patterns cd_Line_patterns ct_Line_patterns, k_FORMS := k_FORMS, k_PATTERNS := k_PATTERNS, k_WEIGHTS := k_WEIGHTS } := {
    b_isinstance := PySem.W.mg_none_of X G z_isinstance,
    b_int := PySem.W.mg_none_of X G z_int,
    b_str := PySem.W.mg_none_of X G z_str,
    b_bool := PySem.W.mg_none_of X G z_bool,
    b_list := PySem.W.mg_none_of X G z_list,
    b_len := PySem.W.mg_none_of X G z_len,
    b_abs := PySem.W.mg_none_of X G z_abs,
    b_range := PySem.W.mg_none_of X G z_range,
    b_tuple := PySem.W.mg_none_of X G z_tuple,
    b_all := PySem.W.mg_none_of X G z_all,
    b_set := PySem.W.mg_none_of X G z_set,
    b_sorted := PySem.W.mg_none_of X G z_sorted,
    b_repr := PySem.W.mg_none_of X G z_repr,
    mg_is_whole := PySem.W.mg_of X G a_is_whole,
    fn_is_whole := fun_mk (st := s_is_whole) l_is_whole co_is_whole kp_is_whole,
    mg_is_whole_to := PySem.W.mg_of X G a_is_whole_to,
    fn_is_whole_to := fun_mk (st := s_is_whole_to) l_is_whole_to co_is_whole_to kp_is_whole_to,
    mg_is_name := PySem.W.mg_of X G a_is_name,
    fn_is_name := fun_mk (st := s_is_name) l_is_name co_is_name kp_is_name,
    mg_are_unlike_names := PySem.W.mg_of X G a_are_unlike_names,
    fn_are_unlike_names := fun_mk (st := s_are_unlike_names) l_are_unlike_names co_are_unlike_names kp_are_unlike_names,
    mg_pattern_in := PySem.W.mg_of X G a_pattern_in,
    fn_pattern_in := fun_mk (st := s_pattern_in) l_pattern_in co_pattern_in kp_pattern_in,
    mg_bits_of := PySem.W.mg_of X G a_bits_of,
    fn_bits_of := fun_mk (st := s_bits_of) l_bits_of co_bits_of kp_bits_of,
    mg_weight_of := PySem.W.mg_of X G a_weight_of,
    fn_weight_of := fun_mk (st := s_weight_of) l_weight_of co_weight_of kp_weight_of,
    mg_number_of := PySem.W.mg_of X G a_number_of,
    fn_number_of := fun_mk (st := s_number_of) l_number_of co_number_of kp_number_of,
    mg_are_told := PySem.W.mg_of X G a_are_told,
    fn_are_told := fun_mk (st := s_are_told) l_are_told co_are_told kp_are_told,
    mg_is_mode := PySem.W.mg_of X G a_is_mode,
    fn_is_mode := fun_mk (st := s_is_mode) l_is_mode co_is_mode kp_is_mode,
    mg_ascending := PySem.W.mg_of X G a_ascending,
    fn_ascending := fun_mk (st := s_ascending) l_ascending co_ascending kp_ascending,
    mg__law_pen := PySem.W.mg_of X G a__law_pen,
    fn__law_pen := fun_mk (st := s__law_pen) l__law_pen co__law_pen kp__law_pen,
    mg__law_draw := PySem.W.mg_of X G a__law_draw,
    fn__law_draw := fun_mk (st := s__law_draw) l__law_draw co__law_draw kp__law_draw,
    mg__law_pick := PySem.W.mg_of X G a__law_pick,
    fn__law_pick := fun_mk (st := s__law_pick) l__law_pick co__law_pick kp__law_pick,
    mg__law_names := PySem.W.mg_of X G a__law_names,
    fn__law_names := fun_mk (st := s__law_names) l__law_names co__law_names kp__law_names,
    mg__law_line := PySem.W.mg_of X G a__law_line,
    fn__law_line := fun_mk (st := s__law_line) l__law_line co__law_line kp__law_line,
    mg__law_line_made := PySem.W.mg_of X G a__law_line_made,
    fn__law_line_made := fun_mk (st := s__law_line_made) l__law_line_made co__law_line_made kp__law_line_made,
    mg__law_lets := PySem.W.mg_of X G a__law_lets,
    fn__law_lets := fun_mk (st := s__law_lets) l__law_lets co__law_lets kp__law_lets,
    mg__law_patterns := PySem.W.mg_of X G a__law_patterns,
    fn__law_patterns := fun_mk (st := s__law_patterns) l__law_patterns co__law_patterns kp__law_patterns,
    mg__law_lets_right := PySem.W.mg_of X G a__law_lets_right,
    fn__law_lets_right := fun_mk (st := s__law_lets_right) l__law_lets_right co__law_lets_right kp__law_lets_right,
    mg__law_patterns_right := PySem.W.mg_of X G a__law_patterns_right,
    fn__law_patterns_right := fun_mk (st := s__law_patterns_right) l__law_patterns_right co__law_patterns_right kp__law_patterns_right,
    mg_Mode := PySem.W.mg_of X G a_Mode,
    c_Mode := ⟨pg_Mode, hd_Mode, po_Mode, sa_Mode⟩,
    n_number_Mode := n_number_Mode,
    mk_Mode := ⟨mk_Mode, at_ModeD_initD, fi_ModeD_initD, kc_Mode⟩,
    fn_ModeD_initD := fun_mk (st := s_ModeD_initD) l_ModeD_initD co_ModeD_initD kp_ModeD_initD,
    p_Mode_number := ⟨at_Mode_number, ge_Mode_number, ta_Mode_number, ⟨_, rc_Mode_number⟩⟩,
    fn_Mode_number := fun_mk (st := s_Mode_number) l_Mode_number co_Mode_number kp_Mode_number,
    m_Mode_with_pattern := ⟨at_Mode_with_pattern, fi_Mode_with_pattern, kp_Mode_with_pattern⟩,
    fn_Mode_with_pattern := fun_mk (st := s_Mode_with_pattern) l_Mode_with_pattern co_Mode_with_pattern kp_Mode_with_pattern,
    r_Mode := ⟨rd_Mode, ga_Mode⟩,
    k_Mode_MOST := ⟨_, ⟨cv_Mode_MOST, ⟨_, rfl⟩⟩⟩,
    ia_Mode := ia_Mode,
    im_Mode := im_Mode,
    is_Mode := kit_self,
    ii_Mode := kit_no ci_Mode ti_Mode su_Mode,
    mg_Line := PySem.W.mg_of X G a_Line,
    c_Line := ⟨pg_Line, hd_Line, po_Line, sa_Line⟩,
    n_form_Line := n_form_Line,
    n_owners_Line := n_owners_Line,
    n_groups_Line := n_groups_Line,
    n_must_Line := n_must_Line,
    n_never_Line := n_never_Line,
    mk_Line := ⟨mk_Line, at_LineD_initD, fi_LineD_initD, kc_Line⟩,
    fn_LineD_initD := fund_mk (st := s_LineD_initD) l_LineD_initD co_LineD_initD kp_LineD_initD lt_DFL vl_DFL (fun z => nomatch z),
    m_Line_lets_names := ⟨at_Line_lets_names, fi_Line_lets_names, kp_Line_lets_names⟩,
    fn_Line_lets_names := fun_mk (st := s_Line_lets_names) l_Line_lets_names co_Line_lets_names kp_Line_lets_names,
    m_Line_lets := ⟨at_Line_lets, fi_Line_lets, kp_Line_lets⟩,
    fn_Line_lets := fun_mk (st := s_Line_lets) l_Line_lets co_Line_lets kp_Line_lets,
    m_Line_patterns := ⟨at_Line_patterns, fi_Line_patterns, kp_Line_patterns⟩,
    fn_Line_patterns := fun_mk (st := s_Line_patterns) l_Line_patterns co_Line_patterns kp_Line_patterns,
    ia_Line := ia_Line,
    im_Line := im_Line,
    is_Line := kit_self,
    ii_Line := kit_no ci_Line ti_Line su_Line,
    in_ := in0,
    it_ := it0,
    mg_FORMS := PySem.W.mg_of X G a_FORMS,
    t_FORMS := fun H => tup_at lt_FORMS sz_FORMS vl_FORMS,
    mg_PATTERNS := PySem.W.mg_of X G a_PATTERNS,
    t_PATTERNS := fun H => tup_at lt_PATTERNS sz_PATTERNS vl_PATTERNS,
    mg_LETTERS := ⟨_, PySem.W.mg_of X G a_LETTERS⟩,
    mg_WEIGHTS := PySem.W.mg_of X G a_WEIGHTS,
    d_WEIGHTS := ⟨_, _, ⟨ld_WG, kl_WG, lw_WG⟩, ⟨_, er_WG⟩, ⟨_, ew_WG⟩, ⟨_, ex_WG⟩⟩
  }
  exact ⟨PySem.W.fnOf "law" "law" (defArgs s_law) (defBody s_law) (defScope s_law) .none kV_law dc_law pm_law an_law cd_law ct_law, [], spLaw K, fun p hp => (nomatch hp), fun p hp => (nomatch hp), fun p hp => (nomatch hp), fun s v => .of_eq rfl, fun H b ns hl hT hS => ⟨b, ns, rfl, hS, hl, fun _ => rfl⟩, fun base _ _ TB => (ok_law T l_law co_law).run callerA rfl ⟨rfl, by decide, by decide⟩⟩
end KG
open PySem PySem.W PyProof.Rows
set_option maxRecDepth 100000 in
set_option maxHeartbeats 0 in
theorem PySem.Challenge.cw_modesdown_k35_lines_let_holds : PySem.Challenge.rw_modesdown_k35_lines_let.Holds := by
  w_on; o_law; k_head; (case hw => w_witness2)
  k_fill
  refine KD.walk_tabs (x := "_law_script") rfl rfl (fun w h Y => PySem.W.kIn_of Y) ?F
  case F =>
    intro w mg fa h Y kIn G hmg
    refine' KG.all_mk kIn G hmg ?z_isinstance ?z_int ?z_str ?z_bool ?z_list ?z_len ?z_abs ?z_range ?z_tuple ?z_all ?z_set ?z_sorted ?z_repr ?a_is_whole ?l_is_whole ?co_is_whole ?kp_is_whole ?a_is_whole_to ?l_is_whole_to ?co_is_whole_to ?kp_is_whole_to ?a_is_name ?l_is_name ?co_is_name ?kp_is_name ?a_are_unlike_names ?l_are_unlike_names ?co_are_unlike_names ?kp_are_unlike_names ?a_pattern_in ?l_pattern_in ?co_pattern_in ?kp_pattern_in ?a_bits_of ?l_bits_of ?co_bits_of ?kp_bits_of ?a_weight_of ?l_weight_of ?co_weight_of ?kp_weight_of ?a_number_of ?l_number_of ?co_number_of ?kp_number_of ?a_are_told ?l_are_told ?co_are_told ?kp_are_told ?a_is_mode ?l_is_mode ?co_is_mode ?kp_is_mode ?a_ascending ?l_ascending ?co_ascending ?kp_ascending ?a__law_pen ?l__law_pen ?co__law_pen ?kp__law_pen ?a__law_draw ?l__law_draw ?co__law_draw ?kp__law_draw ?a__law_pick ?l__law_pick ?co__law_pick ?kp__law_pick ?a__law_names ?l__law_names ?co__law_names ?kp__law_names ?a__law_line ?l__law_line ?co__law_line ?kp__law_line ?a__law_line_made ?l__law_line_made ?co__law_line_made ?kp__law_line_made ?a__law_lets ?l__law_lets ?co__law_lets ?kp__law_lets ?a__law_patterns ?l__law_patterns ?co__law_patterns ?kp__law_patterns ?a__law_lets_right ?l__law_lets_right ?co__law_lets_right ?kp__law_lets_right ?a__law_patterns_right ?l__law_patterns_right ?co__law_patterns_right ?kp__law_patterns_right ?a_Mode ?pg_Mode ?hd_Mode ?po_Mode ?sa_Mode ?n_number_Mode ?at_ModeD_initD ?fi_ModeD_initD ?mk_Mode ?kc_Mode ?l_ModeD_initD ?co_ModeD_initD ?kp_ModeD_initD ?at_Mode_number ?ge_Mode_number ?ta_Mode_number ?rc_Mode_number ?l_Mode_number ?co_Mode_number ?kp_Mode_number ?at_Mode_with_pattern ?fi_Mode_with_pattern ?l_Mode_with_pattern ?co_Mode_with_pattern ?kp_Mode_with_pattern ?rd_Mode ?ga_Mode ?cv_Mode_MOST ?ia_Mode ?im_Mode ?ci_Mode ?ti_Mode ?su_Mode ?a_Line ?pg_Line ?hd_Line ?po_Line ?sa_Line ?n_form_Line ?n_owners_Line ?n_groups_Line ?n_must_Line ?n_never_Line ?at_LineD_initD ?fi_LineD_initD ?mk_Line ?kc_Line ?l_LineD_initD ?co_LineD_initD ?kp_LineD_initD ?lt_DFL ?vl_DFL ?at_Line_lets_names ?fi_Line_lets_names ?l_Line_lets_names ?co_Line_lets_names ?kp_Line_lets_names ?at_Line_lets ?fi_Line_lets ?l_Line_lets ?co_Line_lets ?kp_Line_lets ?at_Line_patterns ?fi_Line_patterns ?l_Line_patterns ?co_Line_patterns ?kp_Line_patterns ?ia_Line ?im_Line ?ci_Line ?ti_Line ?su_Line ?in0 ?it0 ?a_FORMS ?lt_FORMS ?sz_FORMS ?vl_FORMS ?a_PATTERNS ?lt_PATTERNS ?sz_PATTERNS ?vl_PATTERNS ?a_LETTERS ?a_WEIGHTS ?ld_WG ?kl_WG ?lw_WG ?er_WG ?ew_WG ?ex_WG ?a_law ?l_law ?co_law ?kp_law
    (case z_isinstance => k_is)
    (case z_int => k_is)
    (case z_str => k_is)
    (case z_bool => k_is)
    (case z_list => k_is)
    (case z_len => k_is)
    (case z_abs => k_is)
    (case z_range => k_is)
    (case z_tuple => k_is)
    (case z_all => k_is)
    (case z_set => k_is)
    (case z_sorted => k_is)
    (case z_repr => k_is)
    (case a_is_whole => k_is)
    (case l_is_whole => k_is)
    (case co_is_whole => k_is)
    (case kp_is_whole => k_is)
    (case a_is_whole_to => k_is)
    (case l_is_whole_to => k_is)
    (case co_is_whole_to => k_is)
    (case kp_is_whole_to => k_is)
    (case a_is_name => k_is)
    (case l_is_name => k_is)
    (case co_is_name => k_is)
    (case kp_is_name => k_is)
    (case a_are_unlike_names => k_is)
    (case l_are_unlike_names => k_is)
    (case co_are_unlike_names => k_is)
    (case kp_are_unlike_names => k_is)
    (case a_pattern_in => k_is)
    (case l_pattern_in => k_is)
    (case co_pattern_in => k_is)
    (case kp_pattern_in => k_is)
    (case a_bits_of => k_is)
    (case l_bits_of => k_is)
    (case co_bits_of => k_is)
    (case kp_bits_of => k_is)
    (case a_weight_of => k_is)
    (case l_weight_of => k_is)
    (case co_weight_of => k_is)
    (case kp_weight_of => k_is)
    (case a_number_of => k_is)
    (case l_number_of => k_is)
    (case co_number_of => k_is)
    (case kp_number_of => k_is)
    (case a_are_told => k_is)
    (case l_are_told => k_is)
    (case co_are_told => k_is)
    (case kp_are_told => k_is)
    (case a_is_mode => k_is)
    (case l_is_mode => k_is)
    (case co_is_mode => k_is)
    (case kp_is_mode => k_is)
    (case a_ascending => k_is)
    (case l_ascending => k_is)
    (case co_ascending => k_is)
    (case kp_ascending => k_is)
    (case a__law_pen => k_is)
    (case l__law_pen => k_is)
    (case co__law_pen => k_is)
    (case kp__law_pen => k_is)
    (case a__law_draw => k_is)
    (case l__law_draw => k_is)
    (case co__law_draw => k_is)
    (case kp__law_draw => k_is)
    (case a__law_pick => k_is)
    (case l__law_pick => k_is)
    (case co__law_pick => k_is)
    (case kp__law_pick => k_is)
    (case a__law_names => k_is)
    (case l__law_names => k_is)
    (case co__law_names => k_is)
    (case kp__law_names => k_is)
    (case a__law_line => k_is)
    (case l__law_line => k_is)
    (case co__law_line => k_is)
    (case kp__law_line => k_is)
    (case a__law_line_made => k_is)
    (case l__law_line_made => k_is)
    (case co__law_line_made => k_is)
    (case kp__law_line_made => k_is)
    (case a__law_lets => k_is)
    (case l__law_lets => k_is)
    (case co__law_lets => k_is)
    (case kp__law_lets => k_is)
    (case a__law_patterns => k_is)
    (case l__law_patterns => k_is)
    (case co__law_patterns => k_is)
    (case kp__law_patterns => k_is)
    (case a__law_lets_right => k_is)
    (case l__law_lets_right => k_is)
    (case co__law_lets_right => k_is)
    (case kp__law_lets_right => k_is)
    (case a__law_patterns_right => k_is)
    (case l__law_patterns_right => k_is)
    (case co__law_patterns_right => k_is)
    (case kp__law_patterns_right => k_is)
    (case a_Mode => k_is)
    (case pg_Mode => k_is)
    (case hd_Mode => k_is)
    (case po_Mode => k_is)
    (case sa_Mode => k_is)
    (case n_number_Mode => k_is)
    (case at_ModeD_initD => k_is)
    (case fi_ModeD_initD => k_is)
    (case mk_Mode => k_is)
    (case kc_Mode => k_is)
    (case l_ModeD_initD => k_is)
    (case co_ModeD_initD => k_is)
    (case kp_ModeD_initD => k_is)
    (case at_Mode_number => k_is)
    (case ge_Mode_number => k_is)
    (case ta_Mode_number => k_is)
    (case rc_Mode_number => k_is)
    (case l_Mode_number => k_is)
    (case co_Mode_number => k_is)
    (case kp_Mode_number => k_is)
    (case at_Mode_with_pattern => k_is)
    (case fi_Mode_with_pattern => k_is)
    (case l_Mode_with_pattern => k_is)
    (case co_Mode_with_pattern => k_is)
    (case kp_Mode_with_pattern => k_is)
    (case rd_Mode => k_is)
    (case ga_Mode => k_is)
    (case cv_Mode_MOST => k_is)
    (case ia_Mode => k_is)
    (case im_Mode => k_is)
    (case ci_Mode => k_is)
    (case ti_Mode => k_is)
    (case su_Mode => k_is)
    (case a_Line => k_is)
    (case pg_Line => k_is)
    (case hd_Line => k_is)
    (case po_Line => k_is)
    (case sa_Line => k_is)
    (case n_form_Line => k_is)
    (case n_owners_Line => k_is)
    (case n_groups_Line => k_is)
    (case n_must_Line => k_is)
    (case n_never_Line => k_is)
    (case at_LineD_initD => k_is)
    (case fi_LineD_initD => k_is)
    (case mk_Line => k_is)
    (case kc_Line => k_is)
    (case l_LineD_initD => k_is)
    (case co_LineD_initD => k_is)
    (case kp_LineD_initD => k_is)
    (case lt_DFL => k_is)
    (case vl_DFL => exact .cons rfl (.cons rfl (.cons ⟨_, rfl⟩ (.cons ⟨_, rfl⟩ .nil))))
    (case at_Line_lets_names => k_is)
    (case fi_Line_lets_names => k_is)
    (case l_Line_lets_names => k_is)
    (case co_Line_lets_names => k_is)
    (case kp_Line_lets_names => k_is)
    (case at_Line_lets => k_is)
    (case fi_Line_lets => k_is)
    (case l_Line_lets => k_is)
    (case co_Line_lets => k_is)
    (case kp_Line_lets => k_is)
    (case at_Line_patterns => k_is)
    (case fi_Line_patterns => k_is)
    (case l_Line_patterns => k_is)
    (case co_Line_patterns => k_is)
    (case kp_Line_patterns => k_is)
    (case ia_Line => k_is)
    (case im_Line => k_is)
    (case ci_Line => k_is)
    (case ti_Line => k_is)
    (case su_Line => k_is)
    (case in0 => k_is)
    (case it0 => k_is)
    (case a_FORMS => k_is)
    (case lt_FORMS => k_is)
    (case sz_FORMS => (exact Nat.le_of_lt (L2.small1000 (by decide))))
    (case vl_FORMS => exact (.cons ⟨_, rfl⟩ (.cons ⟨_, rfl⟩ .nil)))
    (case a_PATTERNS => k_is)
    (case lt_PATTERNS => k_is)
    (case sz_PATTERNS => (exact Nat.le_of_lt (L2.small1000 (by decide))))
    (case vl_PATTERNS => exact (.cons ⟨_, rfl⟩ (.cons ⟨_, rfl⟩ (.cons ⟨_, rfl⟩ (.cons ⟨_, rfl⟩ (.cons ⟨_, rfl⟩ (.cons ⟨_, rfl⟩ (.cons ⟨_, rfl⟩ (.cons ⟨_, rfl⟩ .nil)))))))))
    (case a_LETTERS => k_is)
    (case a_WEIGHTS => k_is)
    (case ld_WG => k_is)
    (case kl_WG => k_keys)
    (case lw_WG => decide)
    (case er_WG => k_is)
    (case ew_WG => k_is)
    (case ex_WG => k_is)
    (case a_law => k_is)
    (case l_law => k_is)
    (case co_law => k_is)
    (case kp_law => k_is)
