import PyProof.Rows.All
import HandS.MethStar
import HandS.SlotsOwn
import HandS.Star
import HandS.More
import HandS.IsInst
import KE.KCallOwn
import KE.KxField
import HandS.FStr
import PyProof.Rows.StrIntSpec
import PyProof.FString3
import PyProof.FactsAll.int_2
import KE.KxWritten
import HandS.Lambda
import HandS.Codes
import HandS.Words
import HandS.EndTab
import HandS.EndBits
import HandS.NestedK
import KE.KNestM
import PyProof.ReprRoads
import Wide.All
import OpenK.AllK
import Wide.FinOn
import HandS.ForMost
import HandS.Property
import HandS.ClsMeth
import HandS.Conv
import HandS.Wide
import HandS.WideBits
import HandS.Flow
import HandS.Evl
import HandS.Zip
import HandS.Strs
import KE.GoesEnum
import HandS.ExcInit
import HandS.WordsExc
import HandS.ExcIs
import HandS.TupAny
import HandS.OwnEq
import HandS.Deep
import HandS.TupLen
import HandS.MakeKwOnly
import KE.KDictKeyed
import KE.KTupSum
import PyProof.SumAnyB
import PyProof.EnumMake
import PyProof.EqKinds
import KE.KExcIs
import HandS.NoneIn
import PyProof.ReprLen
import HandS.Defaults
import HandS.ExcValue

import PySem.Challenge.RW_modesdown_k05_errors

set_option Elab.async false
set_option linter.all false
set_option maxRecDepth 100000
set_option maxHeartbeats 4000000
namespace KD
open PySem PySem.Spec PyProof.Rows L2
section
open PySem.W PySem.Calls Builtin
variable {prog : Program} {w : World} {A : Around} {E : Value → Shared → Prop} {s : Shared} {K : Frag} {x C L f : Addr} {h₀ : Heap} {m : Str → Option Value} {ox : Obj} {od : Option Obj}
theorem bool_own {Q : Value → Shared → Prop} (F : Fr h₀ L s.heap m) (X₀ : K.In h₀) (I : InstAt s.heap x ox C od) (hs : findIn K (.ref C) "__bool__" = some (some (.ref f))) (hf : isFn K (.ref f) = true)
    (h : wpAny (model prog w) A.in1.in1 (call (.ref f) [.ref x]) (PySem.W.BoolBack fun b s' => Q (.bool b) s') E s) : wpAny (model prog w) A (call (.type "bool") [.ref x]) Q E s := by
  refine callType_codes (T := "bool") (Bi := Builtin.«object.__init__») (Q₁ := fun r s₁ => ∃ b, r = .bool b ∧ Q r s₁) PySem.F.called_bool (PySem.F.typeCall_bool_1 _) PySem.F.entry_object_init ?_ ?_
  · refine codeAny_of_tree ?_
    show wpAny _ A.in1.in1 (do checkBuiltinCall "bool.__new__" ⟨[.type "bool", .ref x], []⟩; again (.builtin "bool.__new__" ⟨[.type "bool", .ref x], []⟩)) _ _ s
    refine wpAny_bind (wpAny_of_eq (PySem.F.newCall_bool_1 _) (wpAny_pure ⟨plainId_quiet (by decide +kernel) _, codeAny_builtin PySem.F.entry_bool_new ?_⟩))
    rw [Around.under_plainId (by decide +kernel) _]
    unfold Builtin.«bool.__new__»
    refine wpAny_bind (m := isType _) (wpAny_pure ?_)
    refine wpAny_bind (wpAny_of_eq PySem.F.conv_sub_bool ?_)
    refine wpAny_bind (m := someArgs _ _ _ _) (wpAny_pure ?_)
    refine wpAny_bind (truthy_K F X₀ I hs hf (wpAny_mono h (fun r s₁ hr => ?_) fun _ _ y => y))
    cases r <;> first | exact hr.elim | exact wpAny_pure ⟨_, rfl, hr⟩
  · rintro obj s₁ ⟨b, rfl, hq⟩
    exact ⟨PySem.typeIs_bool _ _, PySem.F.args_object_init_2 _ _, object_init_meets PySem.F.called_bool.init.lookup PySem.F.called_bool.made (by decide) prog w A.in1 _ s₁ ⟨PySem.typeIs_bool _ _, rfl, hq⟩⟩
end
section
variable {X : Cx} {CX : CXT} {C g : Addr} {n : Nat} {sp : Sp} {E : XK}
/-- repr, len, bool of an own instance -/
def rReprOwn (C : Addr) (sp : Sp) (E : XK) : List V → Hp → VK → Prop := fun xs H Q => ∃ a dx fs, xs = [V.ref a] ∧ H a = some (.ins C dx fs) ∧ sp [.ref a] H (fun z H' => ∃ s, z = .str s ∧ Q z H') E
def rLenOwn (C : Addr) (sp : Sp) (E : XK) : List V → Hp → VK → Prop := fun xs H Q => ∃ a dx fs, xs = [V.ref a] ∧ H a = some (.ins C dx fs) ∧ sp [.ref a] H (fun z H' => ∃ n : Int, z = .int n ∧ 0 ≤ n ∧ n < 2 ^ 63 ∧ Q z H') E
def rBoolOwn (C : Addr) (sp : Sp) (E : XK) : List V → Hp → VK → Prop := fun xs H Q => ∃ a dx fs, xs = [V.ref a] ∧ H a = some (.ins C dx fs) ∧ sp [.ref a] H (fun z H' => ∃ b, z = .bl b ∧ Q z H') E
theorem call_reprOwn (hs : PySem.W.findIn X.K (.ref C) "__repr__" = some (some (.ref g))) (hf : PySem.W.isFn X.K (.ref g) = true) (F : FnR X.prog X.w X.K X.mg X.base CX n g sp) (hr : Room (n + 1) X.A) (hx : Passes CX X E) : CallR X (.builtin "repr") (rReprOwn C sp E) := by
  intro pins s σ H xs us Q I r start
  obtain ⟨a, dx, fs, rfl, hsl, q⟩ := start
  obtain ⟨u, rfl, ru⟩ := r.one
  obtain rfl : u = Value.ref a := ru
  obtain ⟨ox, od, J, _⟩ := StX.insC_at (X := X) I (.inr ⟨dx, fs, hsl⟩)
  have low : Room n X.A.in1 := Room.in1 hr
  obtain ⟨m, hF⟩ := I.fr
  refine PySem.W.repr_K low.units0 hF I.ok.mod.kin J hs hf (wpAny_mono (wpAny_call (SlX.run_at (us := [.ref a]) (ws := [.ref a]) F low I.env0.in1 hx I (.cons rfl .nil) q)) (fun w s' z => ?_) fun _ _ x => x)
  obtain ⟨z', H', I', rz, s2, ei, qz⟩ := z
  subst ei
  obtain ⟨t, e⟩ := (show ∃ t, w = Value.str s2 t from rz)
  cases e
  exact ⟨.str s2, H', I', ⟨t, rfl⟩, qz⟩
theorem call_lenOwn (hs : PySem.W.findIn X.K (.ref C) "__len__" = some (some (.ref g))) (hf : PySem.W.isFn X.K (.ref g) = true) (F : FnR X.prog X.w X.K X.mg X.base CX n g sp) (hr : Room (n + 1) X.A) (hx : Passes CX X E) : CallR X (.builtin "len") (rLenOwn C sp E) := by
  intro pins s σ H xs us Q I r start
  obtain ⟨a, dx, fs, rfl, hsl, q⟩ := start
  obtain ⟨u, rfl, ru⟩ := r.one
  obtain rfl : u = Value.ref a := ru
  obtain ⟨ox, od, J, _⟩ := StX.insC_at (X := X) I (.inr ⟨dx, fs, hsl⟩)
  have low : Room n X.A.in1 := Room.in1 hr
  obtain ⟨m, hF⟩ := I.fr
  refine PySem.W.len_K hF I.ok.mod.kin J hs hf (wpAny_mono (wpAny_call (SlX.run_at (us := [.ref a]) (ws := [.ref a]) F low I.env0.in1 hx I (.cons rfl .nil) q)) (fun w s' z => ?_) fun _ _ x => x)
  obtain ⟨z', H', I', rz, i, ei, h0, h1, qz⟩ := z
  subst ei
  obtain ⟨t, e⟩ := (show ∃ t, w = Value.int i t from rz)
  cases e
  exact ⟨⟨h0, h1⟩, .int i, H', I'.tok _, ⟨_, rfl⟩, qz⟩
theorem call_boolOwn (hs : PySem.W.findIn X.K (.ref C) "__bool__" = some (some (.ref g))) (hf : PySem.W.isFn X.K (.ref g) = true) (F : FnR X.prog X.w X.K X.mg X.base CX n g sp) (hr : Room (n + 2) X.A) (hx : Passes CX X E) : CallR X (.type "bool") (rBoolOwn C sp E) := by
  intro pins s σ H xs us Q I r start
  obtain ⟨a, dx, fs, rfl, hsl, q⟩ := start
  obtain ⟨u, rfl, ru⟩ := r.one
  obtain rfl : u = Value.ref a := ru
  obtain ⟨ox, od, J, _⟩ := StX.insC_at (X := X) I (.inr ⟨dx, fs, hsl⟩)
  have low : Room (n + 1) X.A.in1 := Room.in1 hr
  have hr2 : Room n X.A.in1.in1 := low.in1
  obtain ⟨m, hF⟩ := I.fr
  refine bool_own hF I.ok.mod.kin J hs hf (wpAny_mono (wpAny_call (SlX.run_at (us := [.ref a]) (ws := [.ref a]) F hr2 I.env0.in1.in1 hx I (.cons rfl .nil) q)) (fun w s' z => ?_) fun _ _ x => x)
  obtain ⟨z', H', I', rz, b, ei, qz⟩ := z
  subst ei
  obtain rfl : w = Value.bool b := rz
  exact ⟨.bl b, H', I', rfl, qz⟩
end
end KD
set_option Elab.async false
set_option linter.all false
set_option maxRecDepth 100000
set_option maxHeartbeats 4000000
namespace KD
open PySem PySem.Spec PyProof.Rows L2
section
open PySem.W Builtin Builtin.Str Builtin.Int Builtin.Float PySem.Calls
def spec8 : Str := "03o"
def f8 : FormatSpec := { fill := 48, align := 61, width := some 3, type := some 111 }
def octS (n : Nat) : Str := intField' f8 false [] ((Nat.toDigits 8 n).map fun c => (if (111 : Nat) == 88 then c.toUpper else c).toNat) [] 4
theorem f8_is : parseFormatSpec spec8.cps.toList "int" 62 = .ok f8 := by kernel_rfl
theorem f8_ty : f8.type = some 111 ∧ f8.precision.isSome = false ∧ f8.noNeg0 = false ∧ f8.alt = false ∧ (decide (f8.width.getD 0 > 100000)) = false := by decide +kernel
theorem s8_asc : ((spec8.cps.toList.drop 1).any (· ≥ 128) || (spec8.cps.getD 0 0 ≥ 128 && !([60, 62, 61, 94] : List Nat).contains (spec8.cps.getD 1 0))) = false := by decide +kernel
theorem s8_ne : (spec8.length == 0) = false := by decide +kernel
theorem oct_len : ∀ n : Nat, n < 512 → (octS n).length = 3 := by
  have h : ((List.range 512).all fun n => decide ((octS n).length = 3)) = true := by decide +kernel
  exact fun n hn => of_decide_eq_true (List.all_eq_true.mp h n (List.mem_range.mpr hn))
variable {prog : Program} {w : World} {A : Around} {E : Value → Shared → Prop} {s : Shared}
theorem field_oct {n : Nat} {t : Tok} {Q : Value → Shared → Prop} (hn : n < 512) (h : ∀ t' k, Q (.str (octS n) t') { s with toks := k }) : wpAny (model prog w) A (formatField (.int (n : Nat) t) spec8) Q E s := by
  obtain ⟨h1, h2, h3, h4, h5⟩ := f8_ty
  show wpAny _ _ (holding [.int (n : Nat) t] (pyFormat (.int (n : Nat) t) spec8)) Q E s
  refine wpAny_holding ?_
  unfold pyFormat
  refine wpAny_bind (wpAny_mkStr ?_ (by show 3 ≤ sizeLine; decide))
  refine wpAny_bind (m := callSpecial? (.int (n : Nat) t) (Str.ofString "__format__") [.str spec8 s.toks]) (wpAny_callSpecial?_slot (name := Str.ofString "__format__") (PySem.typeIs_int _ _ t) PySem.F.slot_int_format ?_)
  refine wpAny_call (codeAny_call_builtin PySem.F.slot_int_format.plain PySem.F.entry_int_format (PySem.F.slot_int_format.check _ _ _ _ _ _ _ _ (PySem.typeIs_int _ _ t) (PySem.F.args_int_format_2 _ _) ?_))
  unfold Builtin.«int.__format__»
  simp only [selfAndOne, noKeywords, Int.intOfSelf, asInt?, asStr?, List.isEmpty_nil, if_true, pure_bind, bind_pure, bind_assoc, s8_ne, s8_asc, Bool.false_eq_true, if_false,
    show (Value.str spec8 s.toks == Value.none) = false from rfl]
  refine wpAny_bind (wpAny_typeNameOf (T := "str") (PySem.typeIs_str _ _ _) (by decide) fun _ => ?_)
  refine wpAny_bind (wpAny_typeNameOfCut_int ?_)
  simp only [f8_is, h1, Option.getD_some]
  rw [if_pos (by decide)]
  obtain ⟨f, hf⟩ : ∃ f, f = f8 := ⟨_, rfl⟩
  rw [← hf] at h2 h3 h4 h5 ⊢
  show wpAny _ _ (if _ then _ else _) _ _ _
  rw [if_neg (by rw [h2]; decide)]
  show wpAny _ _ (if _ then _ else _) _ _ _
  rw [if_neg (by rw [h3]; decide)]
  show wpAny _ _ (if _ then _ else _) _ _ _
  rw [if_neg (by decide)]
  show wpAny _ _ (if _ then _ else _) _ _ _
  rw [if_neg (by decide)]
  show wpAny _ _ (if _ then _ else _) _ _ _
  rw [if_neg (of_decide_eq_false h5)]
  show wpAny _ _ (retStr _) _ _ _
  subst hf
  refine KXf.ret_text (T := octS n) ?_ ?_ fun t' k => ?_
  · rw [decide_eq_false (show ¬ (n : Int) < 0 by omega)]
    rfl
  · rw [decide_eq_false (show ¬ (n : Int) < 0 by omega)]
    exact Nat.le_trans (Nat.le_of_eq (oct_len n hn)) (by decide)
  · exact wpAny_bind (wpAny_isInstance (PySem.typeIs_str _ _ _) isSubtype_str_str (wpAny_pure (h _ _)))
end
section
variable {X : Cx}
def tOct (te : TE) : TE := fun σ H Q => te σ H fun x H1 => ∃ n : Nat, x = .int (n : Nat) ∧ n < 512 ∧ Q (.str (octS n)) H1
theorem pe_fmt8 {e : Expr} {te : TE} {pos p1 p2 : Pos} {k : Nat} (he : PE X e te) : PE X (.FormattedValue e (-1) (some (.JoinedStr [.Constant (.str "03o") k p1] p2)) pos) (tOct te) := by
  refine ⟨fun pins s σ H Q I h => ?_⟩
  refine wpAny_FormattedValue_spec (thn (he.run pins s σ H _ I h) fun v s1 ⟨x, H1, I1, r1, n, ex, hn, q⟩ => ?_)
  subst ex
  obtain ⟨t, rfl⟩ := r1
  have hs : PE X (.JoinedStr [.Constant (.str "03o") k p1] p2) (tC (.str "03o")) := pe_joined1 pe_str
  refine thn (hs.run pins s1 σ H1 (fun y H2 => y = .str "03o" ∧ H2 = H1) I1 ⟨rfl, rfl⟩) fun r s2 ⟨y, H2, I2, ry, ey, eH⟩ => ?_
  subst ey eH
  obtain ⟨t2, rfl⟩ := ry
  exact ⟨_, t2, rfl, field_oct hn fun t' k => ⟨.str (octS n), H2, I2.tok _, ⟨_, rfl⟩, q⟩⟩
/-- x op y, x an own instance -/
def rOwnB (K : PySem.W.Frag) (C : Addr) (sp : Sp) (E : XK) : R2 := fun x y H Q => ∃ (p dx : Addr) (fs : List (Str × V)) (t : Value), x = .ref p ∧ H p = some (.ins C dx fs) ∧ TyX K H y t ∧ PySem.W.notFirst K C t = true ∧ sp [x, y] H Q E
theorem op_ownB {CX : CXT} {C g : Addr} {n : Nat} {sp : Sp} {E : XK} {op : CmpOp} (hop : ∀ a b, compareOp op a b = richCompare op a b) (hs : PySem.W.findIn X.K (.ref C) (cmpInfo op).2.1 = some (some (.ref g))) (hf : PySem.W.isFn X.K (.ref g) = true)
    (F : FnR X.prog X.w X.K X.mg X.base CX n g sp) (room : Room n X.A) (hx : Passes CX X E) : OpR X (compareOp op) (rOwnB X.K C sp E) := by
  intro pins s σ H x y v u Q I rx ry told
  obtain ⟨p, dx, fs, t, rfl, hp, ty, nf, want⟩ := told
  obtain rfl : v = Value.ref p := rx
  obtain ⟨o1, d1, J1, _⟩ := StX.insC_at (X := X) I (.inr ⟨dx, fs, hp⟩)
  obtain ⟨Pp, Z, hpp, _⟩ := kit_of I ry ty
  obtain ⟨m, hF⟩ := I.fr
  rw [hop]
  refine PySem.W.cmp_K (op := op) (tb := t) room.units0 hF I.ok.mod.kin J1 (Z.ty _ _ I.kIn hpp) nf hs hf (wpAny_mono (wpAny_call (run_fnR (us := [.ref p, u]) (vs := [.ref p, y]) F room hx I (.cons rfl (.cons ry .nil)) want)) (fun r s' got => ?_) fun _ _ same => same)
  obtain ⟨z, H', I', rz, end_⟩ := got
  exact SlX.cmpback rz ⟨z, H', I', rz, end_⟩
theorem mt_scount : MtR X "str.count" (fun x xs H Q => ∃ a b, x = .str a ∧ xs = [.str b] ∧ Q (.int (Txt.count a b)) H) := by
  intro pins s σ H x xs v us Q I rx rxs h
  obtain ⟨a, b, rfl, rfl, q⟩ := h
  obtain ⟨t, rfl⟩ := rx
  obtain ⟨u, rfl, ru⟩ := rxs.one
  obtain ⟨t2, rfl⟩ := ru
  exact PySem.W.KXw.count rfl fun t' k => ⟨.int _, H, I.tok _, ⟨_, rfl⟩, q⟩
end
end KD
set_option Elab.async false
set_option linter.all false
set_option maxRecDepth 100000
set_option maxHeartbeats 4000000
namespace KD
open PySem PySem.Spec PyProof.Rows L2 LamX
/-! ### defs that are run where no object is being shown -/
def RunAt (P : Program) (w : World) (K : PySem.W.Frag) (mg : Str → Option Value) (base : Heap) (A : Around) (f : Addr) (fd : FuncData) (ps : List Str) (sp : Sp) : Prop :=
  ∀ (outer : List Env) (s : Shared) (H : Hp) (args : Args) (us : List Value) (vs : List V) (Q : VK) (E : XK), Env0 P w K mg base A outer s H → BindsTo s fd args (ps.zip us) → Vals vs us → sp vs H Q E →
    codeAny (model P w) A (.call (.ref f) args) (CR CX0 outer P w H s Q E) s
structure FnG (P : Program) (w : World) (K : PySem.W.Frag) (mg : Str → Option Value) (base : Heap) (k : Nat) (f : Addr) (fd : FuncData) (ps : List Str) (sp : Sp) : Prop where
  len : ∀ vs H Q E, sp vs H Q E → vs.length = ps.length
  run : ∀ A : Around, A.guards = some [] → Room k A → RunAt P w K mg base A f fd ps sp
theorem fnG_of {P : Program} {w : World} {K : PySem.W.Frag} {mg : Str → Option Value} {base : Heap} {k : Nat} {x qual : Str} {st : Stmt} {f : Addr} {oc kV doc pm cdv ct : Value} {an od : Option Addr} {osl : Array (Option Value)} {N ps : List Str} {sp : Sp}
    (at_ : K.lookup f = some ⟨oc, od, .func (PySem.W.fnOf x qual (defArgs st) (defBody st) (defScope st) .none kV doc pm an cdv ct), osl⟩) (code : PySem.W.codeIn K cdv qual = true) (S : FnScope N ps (defScope st)) (len : ∀ vs H Q E, sp vs H Q E → vs.length = ps.length)
    (body : ∀ (A : Around) (outer : List Env) (s : Shared) (H : Hp) (vs : List V) (Q : VK) (E : XK), A.guards = some [] → Room k (A.deeper (envOfC qual (defScope st) s.heap.objs.size f cdv)) → sp vs H Q E →
      ∃ t, PSs (cxOf CX0 P w K mg base N qual (defScope st) f cdv A outer s H E).nox (defBody st) t ∧ t { nx := fun _ H' => Q .non H', rt := Q } (start N vs) H) :
    FnG P w K mg base (k + 1) f (PySem.W.fnOf x qual (defArgs st) (defBody st) (defScope st) .none kV doc pm an cdv ct) ps sp := by
  refine ⟨len, fun A gd room outer s H args us vs Q E e0 bind vals want => ?_⟩
  have many := len _ _ _ _ want
  have inK : K.In s.heap := e0.mod.kin.keeps fun b o q => (e0.bs b o q).1
  have free : s.heap.NoLimit := e0.mod.nolimit.keeps fun b o q => (e0.bs b o q).1
  have kinds : ∀ y ∈ ps.zip us, (defScope st).names.lookup y.1 = some .local ∨ ((defScope st).names.lookup y.1 = some .cell ∧ ((cellsFrom (s.heap.objs.size + 1) (defScope st).names []).lookup y.1).isSome = true) := fun y hy =>
    (S.par y.1 (List.of_mem_zip hy).1).imp id fun q => ⟨q, PySem.W.cellsFrom_some _ _ _ (.inl q)⟩
  refine codeAny_call_function room.depth (inK _ _ at_) rfl S.co S.gen rfl (PySem.W.codeRec_of inK code) (bind _ _ _ _ ?_)
  refine wpAny_newFunctionEnv_cells S.kind kinds fun env he s1 call => ?_
  subst he
  obtain ⟨t, does, reads⟩ := body A outer s H vs Q E gd (room.deeper _) want
  refine ⟨free.keeps call.toInCall.keep, codeAny_func (wpAny_mono (does.nox.run [] s1 (start N vs) H _ (inv_start S room.hd e0 many vals call) reads) (fun fl s' ends => ?_) fun _ _ q => q)⟩
  cases fl with
  | ret u => exact let ⟨v, σ', H', J, rv, q⟩ := ends; ⟨v, H', J.os, J.bare, J.base, J.hok, rv, q⟩
  | next => exact let ⟨σ', H', J, q⟩ := ends; ⟨.non, H', J.os, J.bare, J.base, J.hok, rfl, q⟩
  | brk => exact let ⟨_, _, _, q⟩ := ends; False.elim q
  | cont => exact let ⟨_, _, _, q⟩ := ends; False.elim q
section
variable {X : Cx} {k : Nat} {f : Addr} {fd : FuncData} {ps : List Str} {sp : Sp} {E : XK} {x : Str} {e : Expr} {es : List Expr} {t : TA} {p pos : Pos}
/-- a call of such a def, where no object is being shown -/
theorem pe_callG (F : FnG X.prog X.w X.K X.mg X.base k f fd ps sp) (gd : X.A.guards = some []) (room : Room k X.A) (hg : Gl X x) (hm : X.mg x = some (.ref f)) (kp : PySem.W.keepIn X.K (.ref f) = true) (hb : Binds X.K fd ps [])
    (ha : PA X (e :: es) t) (nodb : (x == ("__debug__" : Str)) = false := by decide) (flat : starEach (e :: es) X.env = (false, eval e X.env) :: starEach es X.env := by rfl) (plain : (backTo pos (starEach es X.env)).any (·.1) = false := by rfl) :
    PE X (.Call (.Name x p) (e :: es) [] pos) (tCall sp [] E t) := by
  refine ⟨fun pins s σ H Q I h => ?_⟩
  refine wpAny_Call_Name_kw (ld_glob I hg hm ?_ nodb)
  refine PySem.W.callWith_K (h₀ := X.base) I.ok.mod.kin kp (thn (ha.run pos pins s σ H _ I h) fun us s1 ⟨vs, H1, J, r, q⟩ => ⟨J.kIn, ?_⟩) flat plain
  have q : sp vs H1 Q E := by rw [← List.append_nil vs]; exact q
  have many : us.length = ps.length := by rw [← r.length]; exact F.len _ _ _ _ q
  have bind := hb s1 us J.kIn (by rw [List.append_nil]; exact many)
  rw [List.append_nil] at bind
  refine wpAny_call (codeAny_mono (F.run X.A gd room X.stack s1 H1 ⟨us, []⟩ us vs Q E J.env0 bind r q) fun r s' got => ?_)
  match r, got with
  | .error _, got => exact False.elim got
  | .ok (.ret _), got => exact J.after got
  | .ok .next, got => exact False.elim got
  | .ok .brk, got => exact False.elim got
  | .ok .cont, got => exact False.elim got
/-! repr of what can be read, where no object is being shown -/
inductive RepV (K : PySem.W.Frag) (H : Hp) : V → Str → Prop
  | int {i : Int} (h : i.natAbs.log2 < 1920) : RepV K H (.int i) (toString i)
  | non : RepV K H .non "None"
  | bl (b : Bool) : RepV K H (.bl b) (if b then "True" else "False")
  | str {z : Str} (h : (reprText z).length ≤ sizeLine) : RepV K H (.str z) (reprText z)
  | obj {p : Addr} {d : PyData} (hd : Dp K H (.ref p) d) (h1 : d.showable = true) (h2 : d.hasDict = false) (h3 : d.depth ≤ 60) (h4 : d.shown.length ≤ sizeLine) : RepV K H (.ref p) d.shown
def rReprV (K : PySem.W.Frag) : List V → Hp → VK → Prop := fun xs H Q => ∃ (x : V) (s : Str), xs = [x] ∧ RepV K H x s ∧ Q (.str s) H
theorem call_reprV (gd : X.A.guards = some []) (hu : X.A.units + 64 < cLine) : CallR X (.builtin "repr") (rReprV X.K) := by
  intro pins s σ H xs us Q I r start
  obtain ⟨v, z, rfl, rep, q⟩ := start
  obtain ⟨u, rfl, ru⟩ := r.one
  cases rep with
  | int h =>
    obtain ⟨t, rfl⟩ := ru
    exact PySem.P.repr_of_int h ⟨.str _, H, I.tok _, ⟨_, rfl⟩, q⟩
  | non =>
    obtain rfl : u = Value.none := ru
    exact PySem.P.repr_of_none ⟨.str _, H, I.tok _, ⟨_, rfl⟩, q⟩
  | bl b =>
    obtain rfl : u = Value.bool b := ru
    exact PySem.P.repr_of_bool ⟨.str _, H, I.tok _, ⟨_, rfl⟩, q⟩
  | str h =>
    obtain ⟨t, rfl⟩ := ru
    exact PySem.P.repr_of_str ⟨.str _, H, I.tok _, ⟨_, rfl⟩, q⟩ h
  | @obj p d hd h1 h2 h3 h4 =>
    obtain ⟨as, reads⟩ := Dp.reads I d (.ref p) u hd ru
    obtain rfl : u = Value.ref p := ru
    exact repr_of_reads' reads h1 (fun h => by rw [h2] at h; cases h) gd (by omega) (fun _ _ e => e) (fun g t tk rest => ⟨.str d.shown, H, I.kept (t' := tk) rest, ⟨t, rfl⟩, q⟩) h4
end
/-! ### a law with lambdas, run at the top alone -/
def tab0 : Obj := { cls := .none, data := .fields #[] }
def fz (vs : List Value) (ns : List Int) : HO := .frz { cls := .type "list", data := .seq vs.toArray } (.lst (ns.map V.int))
/-- what the law is told: the empty tables, and the script, if it is none of the written objects -/
structure Told0 (P : Program) (w : World) (K : PySem.W.Frag) (h : Heap) (a : Addr) (ns : List Int) (Ts : List Addr) (H : Hp) : Prop where
  tabs : ∀ b ∈ Ts, H b = some (.tbl #[])
  only : ∀ b, b ∉ Ts → H b = none ∨ ∃ ob xs, H b = some (.frz ob (.lst xs))
  seq : SqL K H a (ns.map V.int)
  hok : HOk P w H h
  here : ∀ b, H b ≠ none → b = a ∨ b ∈ Ts
  lone : H a ≠ none → K.lookup a = none
theorem told0 {P : Program} {w : World} {K : PySem.W.Frag} {h : Heap} {a : Addr} {vs : List Value} {ns : List Int} {Ts : List Addr} (inK : K.In h) (ha : h.get? a = some { cls := .type "list", data := .seq vs.toArray }) (hi : IntsAre vs ns) (hl : ns.length ≤ sizeLine) (tb : ∀ b ∈ Ts, h.get? b = some tab0) : ∃ H : Hp, Told0 P w K h a ns Ts H := by
  have rv := vals_ints hi
  have off : a ∉ Ts := fun z => by
    have q := (tb a z).symm.trans ha
    exact nomatch congrArg Obj.data (Option.some.inj q)
  cases hk : K.lookup a with
  | some o =>
    obtain rfl : o = { cls := .type "list", data := .seq vs.toArray } := Option.some.inj ((inK a o hk).symm.trans ha)
    refine ⟨fun b => if b ∈ Ts then some (.tbl #[]) else none, fun b m => if_pos m, fun b m => .inl (if_neg m), .inr ⟨_, vs.toArray, _, hk, rfl, rfl, rfl, by rw [List.size_toArray, hi.length]; exact hl, by simpa using rv⟩, fun b u z => ?_, fun b z => .inr (Classical.byContradiction fun n => z (if_neg n)), fun z => absurd (if_neg off) z⟩
    by_cases m : b ∈ Ts
    · obtain rfl : HO.tbl #[] = u := Option.some.inj ((if_pos m).symm.trans z)
      exact tb b m
    · exact nomatch (if_neg m).symm.trans z
  | none =>
    have ifa : (if a ∈ Ts then some (HO.tbl #[]) else if a = a then some (fz vs ns) else none) = some (fz vs ns) := (if_neg off).trans (if_pos rfl)
    refine ⟨fun b => if b ∈ Ts then some (.tbl #[]) else if b = a then some (fz vs ns) else none, fun b m => if_pos m, fun b m => ?_, .inl (.inr ⟨_, ifa⟩), fun b u z => ?_, fun b z => ?_, fun _ => hk⟩
    · by_cases e : b = a
      · exact .inr ⟨_, _, (if_neg m).trans (if_pos e)⟩
      · exact .inl ((if_neg m).trans (if_neg e))
    · by_cases m : b ∈ Ts
      · obtain rfl : HO.tbl #[] = u := Option.some.inj ((if_pos m).symm.trans z)
        exact tb b m
      · have z2 := (if_neg m).symm.trans z
        by_cases e : b = a
        · obtain rfl : fz vs ns = u := Option.some.inj ((if_pos e).symm.trans z2)
          have few : (ns.map V.int).length ≤ sizeLine := by rw [List.length_map]; exact hl
          rw [e]
          exact ⟨ha, few, vs, _, rv, ha⟩
        · exact nomatch (if_neg e).symm.trans z2
    · by_cases m : b ∈ Ts
      · exact .inr m
      · by_cases e : b = a
        · exact .inl e
        · exact absurd ((if_neg m).trans (if_neg e)) z
theorem top_tabs {P : Program} {w : World} {K : PySem.W.Frag} {mg mb : Str → Option Value} {fa a : Addr} {fd : FuncData} {x : Str} {sp : Sp} {s₁ : Shared} {vs : List Value} {ns : List Int} {cs : List (Addr × Addr)} (inK : K.In s₁.heap) (names : s₁.heap.Ns mainGlobals mg) (hb : s₁.heap.Ns builtinsNs mb)
    (boot : ∀ x : Str, x ≠ "__name__" → mb x = bootBuiltins x) (free : s₁.heap.NoLimit) (young : s₁.gens = #[]) (ha : s₁.heap.get? a = some { cls := .type "list", data := .seq vs.toArray }) (hi : IntsAre vs ns) (hl : ns.length ≤ sizeLine)
    (tb : ∀ p ∈ cs, s₁.heap.get? p.2 = some tab0) (away : ∀ p ∈ cs, K.lookup p.2 = none) (hd : ∀ p ∈ cs, PySem.W.codeHdIn K p.1 p.2 = true)
    (main : ∃ (bm : Addr) (ob : Obj), mg "__builtins__" = some (.ref bm) ∧ bm ≠ builtinsNs ∧ s₁.heap.get? bm = some ob ∧ ob.cls = .type "module" ∧ ob.dict = some builtinsNs ∧ ob.data = .plain)
    (F : ∀ base : Heap, K.In base → base.Ns mainGlobals mg → (∀ p ∈ cs, TabB base mg p.1 p.2) → RunAt P w K mg base callerA fa fd [x] sp) (bind : ∀ (s : Shared) (u : Value), BindsTo s fd ⟨[u], []⟩ [(x, u)])
    (want : ∀ H : Hp, (∀ p ∈ cs, H p.2 = some (.tbl #[])) → SqL K H a (ns.map V.int) → sp [.ref a] H (fun v _ => v = .bl true) fun _ _ _ => False) :
    codeAny (model P w) callerA (.call (.ref fa) ⟨[.ref a], []⟩) (fun r s' => r = .ok (.ret (.bool true)) ∧ OldK s₁.heap s'.heap ∧ s'.os = s₁.os ∧ AllBare s'.gens) s₁ := by
  have tb' : ∀ b ∈ cs.map (·.2), s₁.heap.get? b = some tab0 := fun b m => by
    obtain ⟨p, hp, rfl⟩ := List.mem_map.mp m
    exact tb p hp
  obtain ⟨H, told⟩ := told0 (P := P) (w := w) inK ha hi hl tb'
  have in_ : ∀ p ∈ cs, p.2 ∈ cs.map (·.2) := fun p hp => List.mem_map.mpr ⟨p, hp, rfl⟩
  -- what is neither a list nor a table stays in the base
  have out : ∀ {b : Addr} {o : Obj}, s₁.heap.get? b = some o → (∀ it n, o.data ≠ .seq it n) → o.data ≠ .fields #[] → (hidT s₁.heap H).get? b = some o := fun {b o} g n1 n2 => hidT_get g (Classical.byContradiction fun z => by
    rcases told.here b z with rfl | m
    · rw [ha] at g
      cases g
      exact n1 _ _ rfl
    · rw [tb' b m] at g
      cases g
      exact n2 rfl)
  have ns' : ∀ {b : Addr} {m : Str → Option Value}, s₁.heap.Ns b m → (hidT s₁.heap H).Ns b m := fun ⟨o, es, ep, g, d, r⟩ => ⟨o, es, ep, out g (fun _ _ z => nomatch d.symm.trans z) (fun z => nomatch d.symm.trans z), d, r⟩
  have inB : K.In (hidT s₁.heap H) := fun b o q => hidT_get (inK b o q) (Classical.byContradiction fun z => by
    rcases told.here b z with rfl | m
    · rw [told.lone z] at q
      cases q
    · obtain ⟨p, hp, rfl⟩ := List.mem_map.mp m
      rw [away p hp] at q
      cases q)
  have free' : (hidT s₁.heap H).NoLimit := let ⟨mc, h1, h2⟩ := free; ⟨mc, ns' h1, h2⟩
  have glob : ∀ {b : Addr} {o : Obj}, s₁.heap.get? b = some o → (∀ es n, o.data ≠ .dict es n) → mainGlobals ≠ b := fun g n z => by
    obtain ⟨o, es, ep, g2, d, _⟩ := names
    rw [z, g] at g2
    cases g2
    exact n _ _ d
  have tabs : ∀ p ∈ cs, TabB (hidT s₁.heap H) mg p.1 p.2 := fun p hp => by
    obtain ⟨bm, ob, m1, m2, m3, m4, m5, m6⟩ := main
    refine ⟨PySem.W.codeHd_of_K inB (hd p hp), ⟨bm, ob, m1, m2, (glob m3 fun _ _ z => nomatch m6.symm.trans z).symm, fun z => ?_, out m3 (fun _ _ z => nomatch m6.symm.trans z) (fun z => nomatch m6.symm.trans z), m4, m5, m6⟩, glob (tb p hp) fun _ _ z => nomatch z⟩
    rw [z, tb p hp] at m3
    cases m3
    cases m6
  have e0 : Env0 P w K mg (hidT s₁.heap H) callerA [] s₁ H := ⟨rfl, ⟨inB, ns' names, ⟨mb, ns' hb, boot⟩, free'⟩, fun b o q => of_hidT q, Nat.le_of_eq (hidT_size _ _), trivial, fun b m => absurd (show b ∈ ([] : List Addr) from m) List.not_mem_nil, told.hok, .of_eq young⟩
  refine codeAny_mono (F _ inB (ns' names) tabs [] s₁ H ⟨[.ref a], []⟩ [.ref a] [.ref a] _ _ e0 (bind s₁ (.ref a)) (.cons rfl .nil) (want H (fun p hp => told.tabs _ (in_ p hp)) told.seq)) fun r s' got => ?_
  match r, got with
  | .error e, got => exact False.elim got
  | .ok .next, got => exact False.elim got
  | .ok .brk, got => exact False.elim got
  | .ok .cont, got => exact False.elim got
  | .ok (.ret u), ⟨v, H', os, bare, un, hok', rv, q⟩ =>
    obtain rfl : v = .bl true := q
    obtain rfl : u = Value.bool true := rv
    have grew : ∀ p ∈ cs, ∃ more : Array Value, s'.heap.get? p.2 = some { cls := .none, data := .fields more } := fun p hp =>
      let ⟨more, z⟩ := un.tbls p.2 #[] (told.tabs _ (in_ p hp)); ⟨_, hok' p.2 _ z⟩
    have same : ∀ b o, b ∉ cs.map (·.2) → s₁.heap.get? b = some o → s'.heap.get? b = some o := fun b o n g => by
      rcases told.only b n with z | ⟨ob, xs, z⟩
      · exact un.keep b o g z (fun m => absurd (show b ∈ ([] : List Addr) from m) List.not_mem_nil) List.not_mem_nil
      · obtain ⟨e1, _⟩ := told.hok b _ z
        obtain ⟨e2, _⟩ := hok' b _ (un.frzs b ob _ z)
        rw [g] at e1
        cases e1
        exact e2
    refine ⟨rfl, ⟨fun b o g => ?_, fun b o g => ?_⟩, os, bare⟩
    · by_cases m : b ∈ cs.map (·.2)
      · obtain ⟨p, hp, rfl⟩ := List.mem_map.mp m
        obtain ⟨more, gm⟩ := grew p hp
        have hc := PySem.W.codeHd_of_K inK (hd p hp)
        obtain rfl : tab0 = o := Option.some.inj ((tb p hp).symm.trans g)
        exact .inr (.inl ⟨(hc.tab g).isCodeTable, rfl, #[], more, rfl, by rw [gm]; congr; exact (Array.empty_append).symm⟩)
      · exact .inl (same b o m g)
    · by_cases m : b ∈ cs.map (·.2)
      · obtain ⟨p, hp, rfl⟩ := List.mem_map.mp m
        obtain ⟨more, gm⟩ := grew p hp
        exact ⟨_, gm⟩
      · exact ⟨o, same b o m g⟩
def LawTop (l : PySem.W.OpenLaw) (w : World) (K : PySem.W.Frag) (x : Str) (mg : Str → Option Value) (fa : Addr) (h : Heap) : Prop :=
  ∃ (fd : FuncData) (cs : List (Addr × Addr)) (sp : Sp), (∀ p ∈ cs, h.get? p.2 = some tab0) ∧ (∀ p ∈ cs, K.lookup p.2 = none) ∧ (∀ p ∈ cs, PySem.W.codeHdIn K p.1 p.2 = true) ∧ (∀ (s : Shared) (u : Value), BindsTo s fd ⟨[u], []⟩ [(x, u)]) ∧
    (∀ (H : Hp) (a : Addr) (ns : List Int), ns.length ≤ 63 → (∀ p ∈ cs, H p.2 = some (.tbl #[])) → SqL K H a (ns.map V.int) → sp [.ref a] H (fun v _ => v = .bl true) fun _ _ _ => False) ∧
    ∀ base : Heap, K.In base → base.Ns mainGlobals mg → (∀ p ∈ cs, TabB base mg p.1 p.2) → RunAt l.prog w K mg base callerA fa fd [x] sp
theorem walk_tabs {l : PySem.W.OpenLaw} {q : Program} {loose : List Str} {XP : (Str → Option Value) → Heap → Prop} {YP : World → Heap → Prop} {d : DefRec} {K : Params → PySem.W.Frag} {x : Str} (many : l.most = some 63) (plain : d.params.defaults = []) (inK : ∀ (w : World) (h : Heap), YP w h → (K w.params).In h)
    (F : ∀ (w : World) (mg : Str → Option Value) (fa : Addr) (h : Heap), YP w h → (K w.params).In h → h.Ns mainGlobals mg → mg d.name = some (.ref fa) → LawTop l w (K w.params) x mg fa h) :
    PySem.W.WalkO q loose XP YP l.row.toRowW d [] (fun f vs => PySem.call f vs) :=
  Att.attach_callB many plain fun w s₀ s₁ mg mb fa o pm cd doc a vs ns G Y ho hd hcd hmg hobj hints hlen _ hg => by
    obtain ⟨fd, cs, sp, h1, h2, h3, h4, h5, h6⟩ := F w mg fa _ Y (inK w _ Y) G.T.g hmg
    exact top_tabs (inK w _ Y) G.T.g G.T.b G.T.builtins G.T.nolimit hg hobj hints (Nat.le_trans hlen (by decide)) h1 h2 h3 G.T.bmain h6 h4 fun H tb seq => h5 H a ns hlen tb seq
end KD
set_option Elab.async false
set_option linter.all false
set_option maxRecDepth 100000
set_option maxHeartbeats 4000000
namespace KF
/-! ### the mathematics of a beat: L comings ahead, then again and again P of them -/
def place (L P i : Nat) : Nat := if i < L then i else L + (i - L) % P
def goesB (L P : Nat) (as : List Bool) (i : Nat) : Bool := as.getD (place L P i) false
def upTo (f : Nat → Bool) (c : Nat) : Nat := ((List.range c).filter f).length
def thr (L P : Nat) (as : List Bool) (c : Nat) : Nat := upTo (goesB L P as) c
def tot (L P : Nat) (as : List Bool) : Nat := thr L P as (L + P)
def cnt (as : List Bool) : Nat := (as.filter id).length
def each (L : Nat) (as : List Bool) : Nat := cnt (as.drop L)
theorem upTo_succ (f : Nat → Bool) (c : Nat) : upTo f (c + 1) = upTo f c + (if f c = true then 1 else 0) := by
  unfold upTo
  rw [List.range_succ, List.filter_append, List.length_append, List.filter_cons]
  split <;> rfl
theorem upTo_mono (f : Nat → Bool) {c d : Nat} (h : c ≤ d) : upTo f c ≤ upTo f d := by
  induction h with
  | refl => exact Nat.le_refl _
  | step _ ih =>
    rw [upTo_succ]
    omega
theorem upTo_le (f : Nat → Bool) (c : Nat) : upTo f c ≤ c := by
  have h := List.length_filter_le f (List.range c)
  rw [List.length_range] at h
  exact h
theorem upTo_inj (f : Nat → Bool) {c d : Nat} (hc : f c = true) (hd : f d = true) (h : upTo f (c + 1) = upTo f (d + 1)) : c = d := by
  have sc := upTo_succ f c
  have sd := upTo_succ f d
  rw [if_pos hc] at sc
  rw [if_pos hd] at sd
  rcases Nat.lt_trichotomy c d with l | e | l
  · have := upTo_mono f (show c + 1 ≤ d from l)
    omega
  · exact e
  · have := upTo_mono f (show d + 1 ≤ c from l)
    omega
theorem upTo_congr {f g : Nat → Bool} : ∀ {c : Nat}, (∀ i, i < c → f i = g i) → upTo f c = upTo g c
  | 0, _ => rfl
  | c + 1, h => by rw [upTo_succ, upTo_succ, upTo_congr (fun i hi => h i (Nat.lt_succ_of_lt hi)), h c (Nat.lt_succ_self c)]
theorem filter_get (f : Nat → Bool) : ∀ (n k c : Nat), ((List.range n).filter f)[k]? = some c → c < n ∧ f c = true ∧ upTo f c = k
  | 0, k, c, h => by simp at h
  | n + 1, k, c, h => by
    rw [List.range_succ, List.filter_append] at h
    by_cases hk : k < ((List.range n).filter f).length
    · rw [List.getElem?_append_left hk] at h
      obtain ⟨h1, h2, h3⟩ := filter_get f n k c h
      exact ⟨Nat.lt_succ_of_lt h1, h2, h3⟩
    · rw [List.getElem?_append_right (Nat.le_of_not_lt hk), List.filter_cons] at h
      split at h
      · rename_i hf
        have e : k - ((List.range n).filter f).length = 0 := by
          have := (List.getElem?_eq_some_iff.mp h).1
          simp at this
          omega
        rw [e] at h
        obtain rfl : n = c := by simpa using h
        exact ⟨Nat.lt_succ_self _, hf, by unfold upTo; omega⟩
      · simp at h
theorem place_low {L P i : Nat} (h : i < L + P) : place L P i = i := by
  unfold place
  split
  · rfl
  · rw [Nat.mod_eq_of_lt (by omega)]
    omega
theorem place_lt {L P : Nat} (hP : 0 < P) (i : Nat) : place L P i < L + P := by
  unfold place
  split
  · omega
  · have := Nat.mod_lt (i - L) hP
    omega
theorem place_per {L P i : Nat} (h : L ≤ i) : place L P (i + P) = place L P i := by
  unfold place
  rw [if_neg (by omega), if_neg (by omega), show i + P - L = i - L + P by omega, Nat.add_mod_right]
section
variable {L P : Nat} {as : List Bool}
theorem goes_per {i : Nat} (h : L ≤ i) : goesB L P as (i + P) = goesB L P as i := by
  unfold goesB
  rw [place_per h]
theorem goes_many {i : Nat} (h : L ≤ i) : ∀ t, goesB L P as (i + t * P) = goesB L P as i
  | 0 => by rw [Nat.zero_mul, Nat.add_zero]
  | t + 1 => by rw [show i + (t + 1) * P = i + t * P + P by rw [Nat.succ_mul]; omega, goes_per (by omega), goes_many h t]
theorem goes_low {i : Nat} (h : i < L + P) : goesB L P as i = as.getD i false := by
  unfold goesB
  rw [place_low h]
theorem thr_low {c : Nat} (h : c ≤ L + P) : thr L P as c = upTo (fun i => as.getD i false) c := upTo_congr fun i hi => goes_low (by omega)
theorem upTo_take (as : List Bool) : ∀ c, c ≤ as.length → upTo (fun i => as.getD i false) c = cnt (as.take c)
  | 0, _ => by simp [upTo, cnt]
  | c + 1, h => by
    have hc : c < as.length := h
    rw [upTo_succ, upTo_take as c (by omega), List.take_succ, List.getElem?_eq_getElem hc]
    unfold cnt
    rw [List.filter_append, List.length_append, List.getD_eq_getElem?_getD, List.getElem?_eq_getElem hc]
    show _ = _ + (List.filter id [as[c]]).length
    rw [List.filter_cons]
    show _ + (if as[c] = true then 1 else 0) = _ + (if as[c] = true then _ else _ : List Bool).length
    split <;> rfl
theorem thr_take (hl : as.length = L + P) {c : Nat} (h : c ≤ L + P) : thr L P as c = cnt (as.take c) := by
  rw [thr_low h, upTo_take as c (by omega)]
theorem cnt_app (xs ys : List Bool) : cnt (xs ++ ys) = cnt xs + cnt ys := by
  unfold cnt
  rw [List.filter_append, List.length_append]
theorem tot_is (hl : as.length = L + P) : tot L P as = thr L P as L + each L as := by
  unfold tot each
  rw [thr_take hl (Nat.le_refl _), thr_take hl (by omega), List.take_of_length_le (by omega), ← cnt_app, List.take_append_drop]
theorem thr_per (hl : as.length = L + P) {c : Nat} (h : L ≤ c) : thr L P as (c + P) = thr L P as c + each L as := by
  induction h with
  | refl => exact tot_is hl
  | @step m hm ih =>
    have hm : L ≤ m := hm
    have e1 := upTo_succ (goesB L P as) m
    have e2 := upTo_succ (goesB L P as) (m + P)
    rw [goes_per hm] at e2
    show upTo (goesB L P as) (m + 1 + P) = upTo (goesB L P as) (m + 1) + each L as
    have ih : upTo (goesB L P as) (m + P) = upTo (goesB L P as) m + each L as := ih
    rw [show m + 1 + P = m + P + 1 by omega, e2, e1, ih]
    omega
theorem thr_many (hl : as.length = L + P) {c : Nat} (h : L ≤ c) : ∀ t, thr L P as (c + t * P) = thr L P as c + t * each L as
  | 0 => by rw [Nat.zero_mul, Nat.zero_mul, Nat.add_zero, Nat.add_zero]
  | t + 1 => by
    rw [show c + (t + 1) * P = c + t * P + P by rw [Nat.succ_mul]; omega, thr_per hl (by omega), thr_many hl h t, Nat.succ_mul]
    omega
theorem thr_far (hl : as.length = L + P) {r : Nat} (hr : r ≤ P) (t : Nat) : thr L P as (L + r + t * P) = cnt (as.take L) + t * cnt (as.drop L) + cnt ((as.drop L).take r) := by
  rw [thr_many hl (by omega), thr_take hl (by omega), List.take_add, cnt_app]
  unfold each
  omega
theorem thr_all (hP : 0 < P) (hl : as.length = L + P) (h0 : each L as = 0) (c : Nat) : thr L P as c ≤ tot L P as := by
  by_cases h : c ≤ L + P
  · exact upTo_mono _ h
  · have e : c = (L + (c - L) % P) + (c - L) / P * P := by
      have := Nat.mod_add_div (c - L) P
      rw [Nat.mul_comm] at this
      omega
    have := Nat.mod_lt (c - L) hP
    rw [e, thr_many hl (by omega), h0, Nat.mul_zero, Nat.add_zero]
    exact upTo_mono _ (by omega)
/-- the comings of the list that go on -/
def goL (n : Nat) (as : List Bool) : List Nat := (List.range n).filter fun i => as.getD i false
theorem goL_len (L P : Nat) (as : List Bool) : (goL (L + P) as).length = tot L P as := (thr_low (Nat.le_refl _)).symm
theorem goL_get {k c : Nat} (h : (goL (L + P) as)[k]? = some c) : c < L + P ∧ goesB L P as c = true ∧ thr L P as c = k := by
  obtain ⟨h1, h2, h3⟩ := filter_get _ _ _ _ h
  exact ⟨h1, by rw [goes_low h1]; exact h2, by rw [thr_low (Nat.le_of_lt h1)]; exact h3⟩
theorem goL_side {k c : Nat} (h : (goL (L + P) as)[k]? = some c) : (L < c + 1) ↔ thr L P as L ≤ k := by
  obtain ⟨h1, h2, h3⟩ := goL_get h
  constructor
  · intro hc
    rw [← h3]
    exact upTo_mono _ (by omega)
  · intro hk
    refine Nat.lt_succ_of_le (Nat.le_of_not_lt fun lt => ?_)
    have := upTo_mono (goesB L P as) (show c + 1 ≤ L from lt)
    rw [upTo_succ, if_pos h2] at this
    have h3 : upTo (goesB L P as) c = k := h3
    have hk : upTo (goesB L P as) L ≤ k := hk
    omega
theorem from_get (g : Nat) : ∀ (n j : Nat), j < n - g → ((List.range n).filter fun i => decide (g ≤ i))[j]? = some (g + j)
  | 0, j, h => absurd h (by omega)
  | n + 1, j, h => by
    have len : ∀ n, ((List.range n).filter fun i => decide (g ≤ i)).length = n - g := fun n => by
      induction n with
      | zero => simp
      | succ n ih =>
        rw [List.range_succ, List.filter_append, List.length_append, ih, List.filter_cons]
        by_cases hg : g ≤ n
        · rw [if_pos (by simpa using hg)]
          simp
          omega
        · rw [if_neg (by simpa using hg)]
          simp
          omega
    rw [List.range_succ, List.filter_append]
    by_cases hj : j < n - g
    · rw [List.getElem?_append_left (by rw [len]; exact hj)]
      exact from_get g n j hj
    · rw [List.getElem?_append_right (by rw [len]; omega), len, List.filter_cons, if_pos (by simp; omega)]
      have e : j - (n - g) = 0 := by omega
      rw [e]
      simp
      omega
theorem from_len (g : Nat) (n : Nat) : ((List.range n).filter fun i => decide (g ≤ i)).length = n - g := by
  induction n with
  | zero => simp
  | succ n ih =>
    rw [List.range_succ, List.filter_append, List.length_append, ih, List.filter_cons]
    by_cases hg : g ≤ n
    · rw [if_pos (by simpa using hg)]
      simp
      omega
    · rw [if_neg (by simpa using hg)]
      simp
      omega
/-- the k-th coming that goes on, behind the first ones -/
theorem far_get (hP : 0 < P) (hl : as.length = L + P) (he : 0 < each L as) {k : Nat} (hk : tot L P as < k) : ∃ c0, (goL (L + P) as)[thr L P as L + (k - 1 - thr L P as L) % each L as]? = some c0 ∧
    goesB L P as (c0 + (k - 1 - thr L P as L) / each L as * P) = true ∧ thr L P as (c0 + (k - 1 - thr L P as L) / each L as * P + 1) = k := by
  have ht := tot_is hl
  have hm := Nat.mod_lt (k - 1 - thr L P as L) he
  have hd := Nat.mod_add_div (k - 1 - thr L P as L) (each L as)
  rw [Nat.mul_comm] at hd
  generalize hq : (k - 1 - thr L P as L) / each L as = q at hd
  generalize hr : (k - 1 - thr L P as L) % each L as = r at hm hd
  have hlt : thr L P as L + r < (goL (L + P) as).length := by rw [goL_len]; omega
  refine ⟨(goL (L + P) as)[thr L P as L + r], by simp [hlt], ?_⟩
  have hg : (goL (L + P) as)[thr L P as L + r]? = some (goL (L + P) as)[thr L P as L + r] := by simp [hlt]
  have hs := (goL_side hg).mpr (by omega)
  obtain ⟨h1, h2, h3⟩ := goL_get hg
  generalize (goL (L + P) as)[thr L P as L + r] = c0 at hg hs h1 h2 h3
  have g1 : goesB L P as (c0 + q * P) = true := by rw [goes_many (by omega)]; exact h2
  refine ⟨g1, ?_⟩
  have s := upTo_succ (goesB L P as) (c0 + q * P)
  rw [if_pos g1] at s
  have m := thr_many (P := P) hl (show L ≤ c0 by omega) q
  have m : upTo (goesB L P as) (c0 + q * P) = upTo (goesB L P as) c0 + q * each L as := m
  have h3 : upTo (goesB L P as) c0 = thr L P as L + r := h3
  show upTo (goesB L P as) (c0 + q * P + 1) = k
  rw [s, m, h3]
  omega
end
end KF
set_option Elab.async false
set_option linter.all false
set_option maxRecDepth 100000
set_option maxHeartbeats 4000000
namespace KF
open PySem PySem.Spec PyProof.Rows L2 Evl
local macro_rules | `(tactic| walk_at "ev") => `(tactic| repeat' (first | exact ev_c | exact ev_var rfl | exact rv_I0 | refine' rv_I ?_ | refine' rv_eq ?_ | refine' rv_ne ?_ | refine' ev_op ?_ ?_ ?_ | exact ea_nil | refine' ea_cons ?_ ?_ | refine' et_test ?_ | refine' et_B ?_ | refine' et_not ?_ | refine' ev_notV ?_))

theorem all_nat {n : Nat} {p : Nat → Bool} (h : (List.range n).all p = true) : ∀ i, i < n → p i = true := fun i hi => List.all_eq_true.mp h i (List.mem_range.mpr hi)
def EvI (te : TE) (σ : L2.St) (H : Hp) (C : Addr) (fs : List (Str × V)) : Prop := ∀ H1, Ex H H1 → ∀ Q : VK, (∀ p dx H2, H1 p = none → Ex H1 H2 → H2 p = some (.ins C dx fs) → Q (.ref p) H2) → te σ H1 Q
def EvW (K : PySem.W.Frag) (te : TE) (σ : L2.St) (H : Hp) (xs : List V) : Prop := ∀ H1, Ex H H1 → ∀ Q : VK, (∀ p H2, Ex H1 H2 → SqT K H2 p xs → Q (.ref p) H2) → te σ H1 Q
section
variable {σ : L2.St} {K : PySem.W.Frag} {H H' : Hp} {tx te ta tb tv : TE} {u t : TT} {v x y z : V} {r : R2} {D : Ends} {tz : TS}
theorem ev_isi {ta : TA} {c : V} {t u : Value} {b : Bool} (ha : EvA ta σ H [x, c]) (k : ClsV c u) (ty : ∀ H', Ex H H' → TyX K H' x t) (e : PySem.W.kitOne K t u = some b) : Ev (tCB (rIsi K) ta) σ H (.bl b) := fun H1 e1 Q q =>
  ha H1 e1 _ fun H2 e2 => ⟨x, c, t, u, b, rfl, k, ty H2 (e1.trans e2), e, q H2 e2⟩
theorem ev_chain {r r' : R2} {tc : TE} {k1 k2 : Bool} {z : V} (ha : Ev ta σ H x) (hb : Ev tb σ H y) (h1 : RV r x y H (.bl k1)) (hc : k1 = true → Ev tc σ H z ∧ RV r' y z H (.bl k2)) : Ev (tChain r r' ta tb tc) σ H (.bl (k1 && k2)) := fun H1 e1 Q q =>
  ha H1 e1 _ fun H2 e2 => hb H2 (e1.trans e2) _ fun H3 e3 => h1 H3 ((e1.trans e2).trans e3) _ fun H4 e4 => ⟨k1, rfl, by
    cases k1 with
    | true =>
      obtain ⟨h3, h4⟩ := hc rfl
      exact h3 H4 (((e1.trans e2).trans e3).trans e4) _ fun H5 e5 => h4 H5 ((((e1.trans e2).trans e3).trans e4).trans e5) _ fun H6 e6 => q H6 ((((e2.trans e3).trans e4).trans e5).trans e6)
    | false => exact q H4 ((e2.trans e3).trans e4)⟩
theorem ev_cval {ta : TE} {C : Addr} {mc : Value} {f : Str} {u : Value} (h : Ev ta σ H (.ref C)) (r : ClX.CRead K C mc) (k : ClX.CVal K C mc f v u) : Ev (ClX.tCVal K ta f) σ H v := fun H1 e Q q => h H1 e _ fun H2 e2 => ⟨C, mc, v, u, rfl, r, k, q H2 e2⟩
theorem ev_prop {C a : Addr} {dx : Addr} {fs : List (Str × V)} {sp : Sp} {E : XK} (h : Ev ta σ H (.ref a)) (ho : H a = some (.ins C dx fs)) (hs : SpV sp [.ref a] H v) : Ev (tProp C sp [] E ta) σ H v := fun H1 e Q q =>
  h H1 e _ fun H2 e2 => ⟨a, dx, fs, rfl, e2 _ _ (e _ _ ho), hs H2 (e.trans e2) Q (fun H3 e3 => q H3 (e2.trans e3)) E⟩
theorem ev_fld {C a : Addr} {dx : Addr} {fs : List (Str × V)} {f : Str} (h : Ev ta σ H (.ref a)) (ho : H a = some (.ins C dx fs)) (c : Cls K C) (n : NoAttr K C f) (l : fs.lookup f = some v) : Ev (tFld K ta f) σ H v := fun H1 e Q q =>
  h H1 e _ fun H2 e2 => ⟨a, C, dx, fs, v, rfl, e2 _ _ (e _ _ ho), c, n, l, q H2 e2⟩
theorem spv_get {C a : Addr} {dx : Addr} {fs : List (Str × V)} {f : Str} (ho : H a = some (.ins C dx fs)) (l : fs.lookup f = some v) : SpV (getSp C f) [.ref a] H v := fun H1 e Q q E => ⟨a, dx, fs, v, rfl, e _ _ ho, l, q H1 (Ex.refl _)⟩
end
section
variable {σ : L2.St} {K : PySem.W.Frag} {H H' : Hp} {tx te ta tb tv : TE} {u t : TT} {v x y z : V} {r : R2} {D : Ends} {tz : TS}
theorem el_lcS {s : Str} {tl' : TE} {j : Nat} {vs : List Nat} (f : Nat → Bool) (v : Nat → V) (h : Ev tl' σ H (.str s)) (hz : s.cps.size ≤ 40000) (hw : ∀ x, wipe ((wipe σ vs).set j (some x)) vs = wipe σ vs)
    (ht : ∀ (i : Nat) (c : Nat) H1, Ex H H1 → s.cps[i]? = some c → EvT t ((wipe σ vs).set j (some (.str ⟨#[c]⟩))) H1 (f i)) (he : ∀ (i : Nat) (c : Nat) H1, Ex H H1 → s.cps[i]? = some c → f i = true → Ev te ((wipe σ vs).set j (some (.str ⟨#[c]⟩))) H1 (v i)) :
    EvL (tLc (iStr tl') (gName j) t te vs) σ H (given s.cps.size f v) := fun H0 e Q q => h H0 e _ fun H1 e1 => ⟨s, rfl, fun Dl hD =>
  ⟨fun i m H' => m = s.cps.size - i ∧ i ≤ s.cps.size ∧ Cw H1 f v Dl i H', ⟨s.cps.size, by simp, Nat.zero_le _, hD, Ex.new hD, upd_same⟩, by
    rintro i m H' ⟨rfl, hi, p⟩
    by_cases hlt : i < s.cps.size
    · refine .inr ⟨hlt, Cw H1 f v Dl (i + 1), fun H2 p' => ⟨s.cps.size - (i + 1), by omega, rfl, hlt, p'⟩, ?_⟩
      rintro x H2 ⟨rfl, c, hc, rfl⟩
      exact ⟨hw _, cw_turn p (by omega) (ht i c H1 (e.trans e1) hc) (fun hf => he i c H1 (e.trans e1) hc hf)⟩
    · have e2 : i = s.cps.size := by omega
      subst e2
      exact .inl ⟨Nat.le_refl _, q Dl H' (fresh_back e1 p.1) (e1.trans p.2.1) p.2.2⟩⟩⟩
theorem el_lcT {a : Addr} {xs : List V} {tl : TE} {g : TG} {vs : List Nat} {σ' : V → L2.St} (f : Nat → Bool) (v : Nat → V) (h : Ev tl σ H (.ref a)) (hx : SqT K H a xs) (hz : xs.length ≤ 40000)
    (hg : ∀ (i : Nat) (x : V) H1 (Q : L2.St → Hp → Prop), Ex H H1 → xs[i]? = some x → Q (σ' x) H1 → g x (wipe σ vs) H1 Q) (hw : ∀ x, wipe (σ' x) vs = wipe σ vs)
    (ht : ∀ (i : Nat) (x : V) H1, Ex H H1 → xs[i]? = some x → EvT t (σ' x) H1 (f i)) (he : ∀ (i : Nat) (x : V) H1, Ex H H1 → xs[i]? = some x → f i = true → Ev te (σ' x) H1 (v i)) :
    EvL (tLc (iTup K tl) g t te vs) σ H (given xs.length f v) := fun H0 e Q q => h H0 e _ fun H1 e1 => ⟨a, rfl, ⟨xs, ex_t (e.trans e1) hx⟩, fun Dl hD =>
  lc_tup (xs := xs) (Cw H1 f v Dl) ⟨hD, Ex.new hD, upd_same⟩ (fun i H' _ p => ex_t ((e.trans e1).trans p.2.1) hx)
    (fun i x H' hi p => hg i x H' _ ((e.trans e1).trans p.2.1) hi ⟨hw x, cw_turn p (by have := (List.getElem?_eq_some_iff.mp hi).1; omega) (ht i x H1 (e.trans e1) hi) (fun hf => he i x H1 (e.trans e1) hi hf)⟩)
    (fun He cw => q Dl He (fresh_back e1 cw.1) (e1.trans cw.2.1) cw.2.2)⟩
theorem et_yes : EvT tYes σ H true := fun H1 _ _ q => q H1 (Ex.refl H1)
theorem eu_tuple {xs : List V} (h : EvL te σ H xs) : EvU (tCB (fun xs H Q => ∃ p ys, xs = [.ref p] ∧ ((SqL K H p ys ∧ ∀ l, H l = none → Q (.ref l) (upd H l (.tup ys))) ∨ (SqT K H p ys ∧ Q (.ref p) H))) (tCons te tNil)) σ H xs := fun H1 e Q q =>
  h H1 e _ fun p H2 _ e2 h2 => ⟨p, xs, rfl, .inl ⟨sq_of h2, fun l hl => q l _ (fresh_back e2 hl) (e2.trans (Ex.new hl)) upd_same⟩⟩
theorem ev_sum {ns : List Int} (h : EvL te σ H (ns.map V.int)) : Ev (tCB (rSum K) (tCons te tNil)) σ H (.int ns.sum) := fun H1 e Q q =>
  h H1 e _ fun p H2 _ e2 h2 => ⟨p, ns, rfl, sq_of h2, q H2 e2⟩
theorem el_is {xs ys : List V} (h : EvL te σ H xs) (e : xs = ys) : EvL te σ H ys := e ▸ h
theorem eu_is {xs ys : List V} (h : EvU te σ H xs) (e : xs = ys) : EvU te σ H ys := e ▸ h
end
section
variable {σ : L2.St} {K : PySem.W.Frag} {H H' : Hp} {tx te ta tb tv : TE} {u t : TT} {v x y z : V} {r : R2} {D : Ends} {tz : TS}
theorem q_asgTV {p : Addr} {xs : List V} {n : Nat} {tgs : TGs} (h : Ev te σ H (.ref p)) (hx : SqT K H p xs) (hl : xs.length = n) (k : ∀ H1, Ex H H1 → tgs xs σ H1 (tz D)) : tSeq (tAsg te (gTup K n tgs)) tz D σ H :=
  h H (Ex.refl _) _ fun H1 e => ⟨p, xs, rfl, ex_t e hx, hl, k H1 e⟩
end
theorem given_all {n : Nat} {v : Nat → V} : given n (fun _ => true) v = (List.range n).map v := by
  unfold given
  rw [List.filter_eq_self.mpr fun _ _ => rfl]
theorem pe_fldE {X : Cx} {K : PySem.W.Frag} {e : Expr} {ta : TE} {f : Str} {pos : Pos} (he : PE X e ta) (hb : attributeBase e f X.env (eval e X.env) = eval e X.env) (hK : X.K = K := by rfl) : PE X (.Attribute e f pos) (tFld K ta f) := by
  subst hK
  exact pe_fld he hb
section
variable {σ : L2.St} {K : PySem.W.Frag} {H H' : Hp} {tx te ta tb tv : TE} {u t : TT} {v x y z : V} {r : R2} {D : Ends} {tz : TS}
def ExB (p : Addr) (H H' : Hp) : Prop := ∀ b o, H b = some o → b ≠ p → H' b = some o
theorem ExB.refl (p : Addr) (H : Hp) : ExB p H H := fun _ _ h _ => h
theorem ExB.trans {p : Addr} {H H1 H2 : Hp} (a : ExB p H H1) (b : ExB p H1 H2) : ExB p H H2 := fun x o h n => b x o (a x o h n) n
theorem ExB.of {p : Addr} {H H' : Hp} (e : Ex H H') : ExB p H H' := fun x o h _ => e x o h
theorem q_fld {p C dx : Addr} {fs : List (Str × V)} {f : Str} (hv : Ev tv σ H y) (ha : Ev ta σ H (.ref p)) (hp : H p = some (.ins C dx fs)) (c : Cls K C) (n : NoAttr K C f) (hl : fs.length < 1000)
    (k : ∀ H1, ExB p H H1 → H1 p = some (.ins C dx (putF f y fs)) → tz D σ H1) : tSeq (sFld K ta tv f) tz D σ H :=
  hv H (Ex.refl _) _ fun H1 e1 => ha H1 e1 _ fun H2 e2 => ⟨p, C, dx, fs, rfl, e2 _ _ (e1 _ _ hp), c, n, hl, k _ (fun b o hb ne => by rw [upd_ne ne]; exact e2 _ _ (e1 _ _ hb)) upd_same⟩
end
section
variable {σ : L2.St} {K : PySem.W.Frag} {H H' : Hp} {tx te ta tb tv : TE} {u t : TT} {v x y z : V} {r : R2} {D : Ends} {tz : TS}
theorem el_sliceL {p : Addr} {xs : List V} {tl th : TO} {lo hi : Option Int} (h : Ev te σ H (.ref p)) (h1 : EvO tl σ H lo) (h2 : EvO th σ H hi) (hs : SqL K H p xs) : EvL (tSl (rSlL K) te tl th) σ H (cutV xs lo hi) := el_sl h h1 h2 hs
theorem el_listN {xs : List V} (h : EvL te σ H xs) : EvL (tCB (fun xs H Q => ∃ p ys, xs = [V.ref p] ∧ (SqL K H p ys ∨ SqT K H p ys) ∧ ∀ l, H l = none → Q (.ref l) (upd H l (.lst ys))) (tCons te tNil)) σ H xs := fun H1 e Q q =>
  h H1 e _ fun p H2 _ e2 h2 => ⟨p, xs, rfl, .inl (sq_of h2), fun l hl => q l _ (fresh_back e2 hl) (e2.trans (Ex.new hl)) upd_same⟩
theorem cut_ints (ns : List Int) (lo hi : Option Int) : ∃ ms : List Int, cutV (ns.map V.int) lo hi = ms.map V.int ∧ ms.length ≤ ns.length := by
  refine ⟨(ns.drop (HT.sIx ns.length 0 lo)).take (HT.sIx ns.length ns.length hi - HT.sIx ns.length 0 lo), ?_, ?_⟩
  · unfold cutV
    rw [List.length_map, List.map_take, List.map_drop]
  · rw [List.length_take, List.length_drop]
    omega
theorem ev_int {i : Int} (h : Ev te σ H (.int i)) : Ev (tCB (fun xs H Q => (∃ i, xs = [V.int i] ∧ Q (.int i) H) ∨ ∃ k, xs = [V.bl k] ∧ Q (.int (if k then 1 else 0)) H) (tCons te tNil)) σ H (.int i) := fun H1 e Q q => h H1 e _ fun H2 e2 => .inl ⟨i, rfl, q H2 e2⟩
theorem ev_intB {k : Bool} (h : Ev te σ H (.bl k)) : Ev (tCB (fun xs H Q => (∃ i, xs = [V.int i] ∧ Q (.int i) H) ∨ ∃ k, xs = [V.bl k] ∧ Q (.int (if k then 1 else 0)) H) (tCons te tNil)) σ H (.int (if k then 1 else 0)) := fun H1 e Q q => h H1 e _ fun H2 e2 => .inr ⟨k, rfl, q H2 e2⟩
theorem ev_lenS {p : Addr} {xs : List V} (ha : Ev ta σ H (.ref p)) (h : SqL K H p xs) : Ev (tCB (fun xs H Q => ∃ p ys, xs = [V.ref p] ∧ (SqL K H p ys ∨ SqT K H p ys) ∧ Q (.int (ys.length : Nat)) H) (tCons ta tNil)) σ H (.int (xs.length : Nat)) := ev_len ha h
theorem ev_abs {i : Int} (h : Ev te σ H (.int i)) : Ev (tCB (fun xs H Q => ∃ i, xs = [V.int i] ∧ Q (.int (if i < 0 then -i else i)) H) (tCons te tNil)) σ H (.int (if i < 0 then -i else i)) := fun H1 e Q q => h H1 e _ fun H2 e2 => ⟨i, rfl, q H2 e2⟩
end
theorem dp_ints {K : PySem.W.Frag} {H : Hp} : ∀ ns : List Int, DpAll K H (ns.map V.int) (ns.map PyData.int)
  | [] => .nil
  | n :: ns => .cons (.int n) (dp_ints ns)
theorem rv_neE {K : PySem.W.Frag} {H : Hp} {l q : Addr} {ns : List Int} (hl : H l = some (.lst (ns.map V.int))) (hq : H q = some (.lst [])) : RV (rNeD K) (.ref l) (.ref q) H (.bl (!PyData.eqv (.list (ns.map PyData.int)) (.list []))) := fun H1 e Q k =>
  ⟨.list (ns.map PyData.int), .list [], .lst (sq_of (e _ _ hl)) (dp_ints ns), .lst (sq_of (e _ _ hq)) .nil, PySem.W.ke_shaped_ints ns, PySem.W.ke_shaped_ints [], k H1 (Ex.refl H1)⟩
theorem eqv_nil (ns : List Int) : PyData.eqv (.list (ns.map PyData.int)) (.list []) = decide (ns = []) := by
  cases ns with
  | nil => simp [PyData.eqv, PyData.eqvAll]
  | cons n ns => simp [PyData.eqv, PyData.eqvAll]
theorem mul_bd {x y A B : Int} (h0 : 0 ≤ x) (h1 : x ≤ A) (h2 : 0 ≤ y) (h3 : y ≤ B) : 0 ≤ x * y ∧ x * y ≤ A * B :=
  ⟨Int.mul_nonneg h0 h2, Int.mul_le_mul h1 h3 h2 (Int.le_trans h0 h1)⟩
theorem s_retPen {te : TE} {σ : L2.St} {H : Hp} {D : Ends} {xs : List V} {x y : V} (h : EvL te σ H xs) (k : ∀ l p H1, H l = none → Ex H H1 → H1 l = some (.lst xs) → H1 p = none → D.rt (.ref p) (upd H1 p (.lst [.ref l, x, y]))) : tRet (tLst (tCons te (tCons (tC x) (tCons (tC y) tNil)))) D σ H :=
  h H (Ex.refl H) _ fun l H1 hl e1 h1 => ⟨by show 3 ≤ sizeLine; decide, fun p hp => k l p H1 hl e1 h1 hp⟩
theorem FnOk.either {P : Program} {w : World} {K : PySem.W.Frag} {mg : Str → Option Value} {base : Heap} {CX : CXT} {k : Nat} {f : Addr} {fd : FuncData} {ps : List Str} {s1 s2 : Sp} (F1 : FnOk P w K mg base CX k f fd ps s1) (F2 : FnOk P w K mg base CX k f fd ps s2) : FnOk P w K mg base CX k f fd ps (fun vs H Q E => s1 vs H Q E ∨ s2 vs H Q E) :=
  ⟨fun vs H Q E h => h.elim (F1.len vs H Q E) (F2.len vs H Q E), fun A outer s H args us vs Q E hr e0 hb r h => h.elim (F1.run A outer s H args us vs Q E hr e0 hb r) (F2.run A outer s H args us vs Q E hr e0 hb r)⟩
def TyE (K : PySem.W.Frag) (H : Hp) (x : V) (t : String) : Prop := ∀ H', Ex H H' → TyX K H' x (.type t)
def BadW (K : PySem.W.Frag) (H : Hp) (x : V) (m : Int) : Prop := (∃ (t : String) (b1 b2 : Bool), TyE K H x t ∧ kitB t "int" = some b1 ∧ kitB t "bool" = some b2 ∧ (b1 && !b2) = false) ∨ ∃ i : Int, x = .int i ∧ (i < 0 ∨ m < i)
theorem BadW.mono {K : PySem.W.Frag} {H H' : Hp} {x : V} {m : Int} (h : BadW K H x m) (e : Ex H H') : BadW K H' x m := by
  rcases h with ⟨t, b1, b2, ty, h1, h2, h3⟩ | h
  · exact .inl ⟨t, b1, b2, fun H1 e1 => ty H1 (e.trans e1), h1, h2, h3⟩
  · exact .inr h
def spW1 (K : PySem.W.Frag) : Sp := fun vs H Q _ => ∃ (x : V) (t : String) (b1 b2 : Bool), vs = [x] ∧ TyE K H x t ∧ kitB t "int" = some b1 ∧ kitB t "bool" = some b2 ∧ ∀ H', Ex H H' → Q (.bl (b1 && !b2)) H'
section
variable {K : PySem.W.Frag} {H : Hp}
theorem rv_isN {x : V} : RV (fun x y H Q => y = .non ∧ Q (.bl (decide (x = .non))) H) x .non H (.bl (decide (x = .non))) := fun H1 _ _ q => ⟨rfl, q H1 (Ex.refl H1)⟩
end
theorem op_eqE {X : Cx} {K : PySem.W.Frag} (h : X.K = K) (hu : X.A.units + 64 < cLine) : OpR X (compareOp .Eq) (rEqD K) := by
  subst h
  exact op_eqD hu
theorem op_ownBE {X : Cx} {K : PySem.W.Frag} {CX : CXT} {C g : Addr} {n : Nat} {sp : Sp} {E : XK} {op : CmpOp} (hK : X.K = K) (hop : ∀ a b, compareOp op a b = richCompare op a b) (hs : PySem.W.findIn K (.ref C) (cmpInfo op).2.1 = some (some (.ref g))) (hf : PySem.W.isFn K (.ref g) = true)
    (F : FnR X.prog X.w X.K X.mg X.base CX n g sp) (room : Room n X.A) (hx : Passes CX X E) : OpR X (compareOp op) (KD.rOwnB K C sp E) := by
  subst hK
  exact KD.op_ownB hop hs hf F room hx
theorem takes_len {X : Cx} {W : WX} (t : Takes X W) : Takes X (fun c d σ H => σ.length = X.N.length → W c d σ H) := fun u s' ⟨a, B, sI, pins, σ, H, cls, d, e, I, nb, up, sky, na, os, ag, w⟩ => t u s' ⟨a, B, sI, pins, σ, H, cls, d, e, I, nb, up, sky, na, os, ag, w I.len⟩
theorem op_neE {X : Cx} {K : PySem.W.Frag} (h : X.K = K) (hu : X.A.units + 64 < cLine) : OpR X (compareOp .NotEq) (rNeD K) := by
  subst h
  exact op_neD hu
theorem cl_of {K : PySem.W.Frag} {D : Addr} (C : ExcC K D) : (PySem.W.clsIn K D).isSome = true := by
  obtain ⟨cd, hc, _⟩ := PySem.W.any_some C.hd
  rw [hc]
  rfl
section
variable {X : Cx} {K : PySem.W.Frag}
theorem call_isiE (h : X.K = K) : CallR X (.builtin "isinstance") (rIsi K) := by
  subst h
  exact call_isi
theorem call_reprVE (h : X.K = K) (gd : X.A.guards = some []) (hu : X.A.units + 64 < cLine) : CallR X (.builtin "repr") (KD.rReprV K) := by
  subst h
  exact KD.call_reprV gd hu
theorem ix_listE (h : X.K = K) : IxR X (rIxL K) := by
  subst h
  exact ix_list
theorem op_notIn_seqE (h : X.K = K) : OpR X (compareOp .NotIn) (rIn K true) := by
  subst h
  exact op_notIn_seq
end
theorem q_asgRaw {te : TE} {i : Nat} {D : Ends} {tz : TS} {σ : L2.St} {H : Hp} (h : te σ H fun x H1 => tz D (σ.set i (some x)) H1) : tSeq (tAsg te (gName i)) tz D σ H := h
theorem ixN_nat {n j : Nat} (h : j < n) : ixN n ((j : Nat) : Int) = some j := by
  unfold ixN
  rw [if_pos (by omega), if_pos (by omega)]
  rfl
def tMethK (C : Addr) (m : Str) (sp : Sp) (gV : List V → List V → List V) (E : XK) (ta : TE) (tk : TA) : TE := fun σ H Q => ta σ H fun x H1 => ∃ a dx fs, x = .ref a ∧ H1 a = some (.ins C dx fs) ∧ fs.lookup m = none ∧ tk σ H1 fun zs H2 => sp (gV [x] zs) H2 Q E
section
variable {X : Cx} {CX : CXT} {k : Nat} {C p g : Addr} {sp : Sp} {E : XK} {o e : Expr} {es : List Expr} {m : Str} {pos apos : Pos} {ta : TE} {t tk : TA} {fd : FuncData} {ps ks : List Str} {kws : List Keyword} {gg : List Value → List Value → List Value} {gV : List V → List V → List V}
theorem pe_methK {pl : Sem Bool} (he : PE X o ta) (c : Cls X.K C) (hm : Meth X.K C m g) (F : FnOk X.prog X.w X.K X.mg X.base CX k g fd ps sp) (hr : Room k X.A) (hb : KBinds X.K fd ps ks gg gV) (hx : Passes CX X E) (hkw : PK X kws tk)
    (hall : (backToKw pos (keywordEach kws X.env)).all (·.1.isSome) = true := by rfl) (hks : (backToKw pos (keywordEach kws X.env)).filterMap (·.1) = ks := by rfl)
    (hpl : ((backTo pos (starEach [] X.env)).any (·.1) || (backToKw pos (keywordEach kws X.env)).any (·.1.isNone)) = false := by rfl)
    (ht : eval (.Call (.Attribute o m apos) [] kws pos) X.env = (do
      let ov ← eval o X.env
      standAt apos.atName
      let (f, first) ← holding [ov] (getMethod ov m pl)
      callWith pos f first (backTo pos (starEach [] X.env)) (backToKw pos (keywordEach kws X.env))) := by rfl) :
    PE X (.Call (.Attribute o m apos) [] kws pos) (tMethK C m sp gV E ta tk) := by
  refine ⟨fun pins s σ H Q I h => ?_⟩
  refine PySem.W.methodCall_KW (pl := pl) (thn (he.run pins s σ H _ I h) fun u s1 ⟨x, H1, I1, rx, a, dx, fs, ex, ea, l, q⟩ => ?_) ht
  subst ex
  obtain rfl : u = Value.ref a := rx
  refine getmeth_ok I1 ea c hm l ?_
  refine PySem.W.callWith_KW0 (first := [.ref a]) (h₀ := X.base) I1.ok.mod.kin hm.kp hall (thn (hkw.run pos pins s1 σ H1 _ I1 q) fun ws s3 ⟨zs, H2, I3, rz, q2⟩ => ⟨I3.kIn, ?_⟩) hpl
  rw [hks]
  exact run_fnk (us := [.ref a]) (vs := [.ref a]) F hr hb hx I3 (.cons rfl .nil) rz q2
end
namespace Ne
open PySem PySem.W
variable {M : Model} {prog : Program} {w : World} {A : Around} {E : Value → Shared → Prop} {s : Shared} {K : Frag} {x C f : Addr} {ox : Obj} {od : Option Obj}
theorem ifBound_ne {args : List Value} {Q : Option Value → Shared → Prop} (X : K.In s.heap) (I : InstAt s.heap x ox C od) (hs : findIn K (.ref C) "__ne__" = some (some (.builtin "object.__ne__")))
    (h : wpAny M A (call (.builtin "object.__ne__") (.ref x :: args)) (fun v => Q (some v)) E s) : wpAny M A (callSpecialIfBound? (.ref x) "__ne__" args) Q E s := by
  simp only [callSpecialIfBound?, bindSpecialIfBound?]
  refine wpAny_holding (wpAny_bind (wpAny_bind (wpAny_bind (I.type.here ((looks_findIn X hs).here ?_)))))
  refine wpAny_bind (wpAny_askSetting (wpAny_ite ?_))
  have done_ : wpAny M A (call (.builtin "object.__ne__") ([.ref x] ++ args) >>= fun v => pure (some v)) Q E s := wpAny_bind (wpAny_mono h (fun v s' h' => wpAny_pure h') fun _ _ h' => h')
  split
  · exact wpAny_bind (wpAny_of_eq (F.cmp_object.ne.bind _) (wpAny_pure (by exact done_)))
  · exact wpAny_tryCatch (wpAny_bind (wpAny_of_eq (F.cmp_object.ne.bind _) (wpAny_pure (by exact done_))))
theorem entry_ne {y : Value} {Q : Fin → Shared → Prop} (hu : A.units < cLine) (X : K.In s.heap) (I : InstAt s.heap x ox C od) (hs : findIn K (.ref C) "__eq__" = some (some (.ref f))) (hf : isFn K (.ref f) = true)
    (h : wpAny M A (call (.ref f) [.ref x, y]) (fun v s' => ∃ b, v = .bool b ∧ Q (.done (.ret (.bool (!b)))) s') E s) : wpAny M A (Builtin.«object.__ne__» ⟨[.ref x, y], []⟩) Q E s := by
  unfold Builtin.«object.__ne__»
  repeat (first
    | with_reducible refine wpAny_cRoomFor hu ?_
    | (refine wpAny_bind (m := callSpecialIfBound? (.ref x) (Str.ofString "__eq__") [y]) (ifBound_K X I hs hf (wpAny_mono h (fun r s' hr => by
          obtain ⟨b, rfl, hq⟩ := hr
          repeat (first | exact hq | exact wpAny_pure hq | exact wpAny_truthy_bool hq | (refine wpAny_bind (m := truthy (.bool _)) (wpAny_truthy_bool ?_)) | wp_step)) fun _ _ e => e)))
    | wp_step)
theorem rich_ne {y : Value} {Q : Value → Shared → Prop} (hu : A.units + 1 < cLine) (X : K.In s.heap) (I : InstAt s.heap x ox C od) (hy : Looks (model prog w) s.heap (typeOf y) (.ref C)) (hm : mroIn K C (.type "object") = some true)
    (hn : findIn K (.ref C) "__ne__" = some (some (.builtin "object.__ne__"))) (hs : findIn K (.ref C) "__eq__" = some (some (.ref f))) (hf : isFn K (.ref f) = true)
    (h : wpAny (model prog w) A.in1 (call (.ref f) [.ref x, y]) (fun v s' => ∃ b, v = .bool b ∧ Q (.bool (!b)) s') E s) : wpAny (model prog w) A (richCompare .NotEq (.ref x) y) Q E s := by
  have one : wpAny (model prog w) A (tryCompare (.ref x) "__ne__" y) (fun r s' => ∃ b, r = some (.bool b) ∧ Q (.bool b) s') E s := by
    unfold tryCompare
    refine wpAny_bind (ifBound_ne X I hn (wpAny_call (codeAny_call_builtin F.cmp_object.ne.plain F.cmpEntry_ne (check_slot F.cmpKind_ne F.cmpSplit_ne (I.type.andThen (looks_mroIn X hm)) (F.cmpArgs_ne _ _)
      (entry_ne (A := A.in1) (y := y) hu X I hs hf (wpAny_mono h (fun v s' hv => ?_) fun _ _ e => e))))))
    obtain ⟨b, rfl, hq⟩ := hv
    first | exact ⟨b, rfl, wpAny_pure ⟨!b, rfl, hq⟩⟩ | exact ⟨b, rfl, wpAny_pure (wpAny_pure ⟨!b, rfl, hq⟩)⟩ | exact ⟨b, rfl, ⟨!b, rfl, hq⟩⟩
  unfold richCompare
  simp only [oneThing_ref]
  refine wpAny_holding (wpAny_bind (wpAny_cRoomFor (Nat.lt_of_succ_lt hu) ?_))
  rw [cmpInfo_NotEq]
  dsimp only
  refine wpAny_bind (I.type.here (wpAny_bind (hy.here ?_)))
  rw [show (Value.ref C != Value.ref C) = false from by simp]
  simp only [Bool.false_eq_true, if_false]
  refine wpAny_bind (wpAny_pure ?_)
  simp only [Bool.false_eq_true, if_false]
  refine wpAny_bind (wpAny_mono one (fun r s' z => ?_) fun _ _ e => e)
  obtain ⟨b, rfl, hq⟩ := z
  first | exact wpAny_pure hq | exact wpAny_pure (wpAny_pure hq)
end Ne
open PySem
def rOwnNe (C : Addr) (sp : Sp) (E : XK) : R2 := fun x y H Q => ∃ (p dx : Addr) (fs : List (Str × V)) (q dy : Addr) (gs : List (Str × V)), x = .ref p ∧ y = .ref q ∧ H p = some (.ins C dx fs) ∧ H q = some (.ins C dy gs) ∧ sp [x, y] H (fun v H' => ∃ b, v = .bl b ∧ Q (.bl (!b)) H') E
section
variable {X : Cx} {CX : CXT} {C g : Addr} {n : Nat} {sp : Sp} {E : XK}
theorem op_ownNe (hn : PySem.W.findIn X.K (.ref C) "__ne__" = some (some (.builtin "object.__ne__"))) (hm : PySem.W.mroIn X.K C (.type "object") = some true) (hs : PySem.W.findIn X.K (.ref C) "__eq__" = some (some (.ref g))) (hf : PySem.W.isFn X.K (.ref g) = true)
    (F : FnR X.prog X.w X.K X.mg X.base CX n g sp) (room : Room (n + 1) X.A) (hx : Passes CX X E) : OpR X (compareOp .NotEq) (rOwnNe C sp E) := by
  intro pins s σ H x y v u Q I rx ry told
  obtain ⟨p, dx, fs, q, dy, gs, rfl, rfl, hp, hq, want⟩ := told
  obtain rfl : v = Value.ref p := rx
  obtain rfl : u = Value.ref q := ry
  obtain ⟨o1, d1, J1, _⟩ := StX.insC_at (X := X) I (.inr ⟨dx, fs, hp⟩)
  obtain ⟨o2, d2, J2, _⟩ := StX.insC_at (X := X) I (.inr ⟨dy, gs, hq⟩)
  have hu : X.A.units + 1 < cLine := by have := room.units; omega
  show wpAny (model X.prog X.w) X.A (richCompare .NotEq (.ref p) (.ref q)) _ _ _
  refine Ne.rich_ne hu I.kIn J1 J2.type hm hn hs hf (wpAny_mono (wpAny_call (SlX.run_at (us := [.ref p, .ref q]) (ws := [.ref p, .ref q]) F room.in1 I.env0.in1 hx I (.cons rfl (.cons rfl .nil)) want)) (fun r s' got => ?_) fun _ _ same => same)
  obtain ⟨z, H', I', rz, b, rfl, want2⟩ := got
  obtain rfl : r = Value.bool b := rz
  exact ⟨b, rfl, .bl (!b), H', I', rfl, want2⟩
end
section
variable {X : Cx} {CX : CXT} {C g : Addr} {n : Nat} {sp : Sp} {E : XK} {fd : FuncData} {ps : List Str}
theorem callK_of {M : Model} {A : Around} {E : Value → Shared → Prop} {s : Shared} {a : Addr} {pos : Pos} {Q : Value → Shared → Prop} {args : List (Bool × Sem Value)} {kws : List (Option Str × Sem Value)} (hplain : (args.any (·.1) || kws.any (·.1.isNone)) = false)
    (h : wpAny M A (evalArgs (.ref a) true args kws) (fun z s₁ => (∃ C ox od, PySem.W.InstAt s₁.heap a ox C od ∧ ox.data = .plain) ∧ wpAny M A (call (.ref a) ([] ++ z.pos) z.kw) Q E s₁) E s) : wpAny M A (callWith pos (.ref a) [] args kws) Q E s := by
  unfold callWith
  refine wpAny_bind (wpAny_holding (wpAny_mono h (fun got s2 there => wpAny_bind (wpAny_standAt ?_)) fun _ _ same => same))
  obtain ⟨⟨C, ox, od, J, hd⟩, go⟩ := there
  simp only [hplain]
  refine wpAny_bind ((PySem.W.kco_keeper (M := M) J hd).here ?_)
  exact wpAny_bind (wpAny_mono (wpAny_operateT go) (fun r s₂ hr => wpAny_bind (wpAny_holding (wpAny_point (wpAny_pure hr)))) fun _ _ y => y)
def tCallOK (C : Addr) (sp : Sp) (gV : List V → List V → List V) (E : XK) (tf : TE) (tk : TA) : TE := fun σ H Q => tf σ H fun y H1 => ∃ p, y = V.ref p ∧ tk σ H1 fun zs H2 => (∃ dx fs, H2 p = some (.ins C dx fs)) ∧ sp (gV [.ref p] zs) H2 Q E
theorem pe_callOK {fe : Expr} {pos : Pos} {kws : List Keyword} {tf : TE} {tk : TA} {ks : List Str} {gg : List Value → List Value → List Value} {gV : List V → List V → List V} (hf : PE X fe tf) (c : StX.CallO X.K C g) (F : FnOk X.prog X.w X.K X.mg X.base CX n g fd ps sp) (hr : Room n X.A) (hb : KBinds X.K fd ps ks gg gV) (hx : Passes CX X E)
    (hkw : PK X kws tk) (hall : (backToKw pos (keywordEach kws X.env)).all (·.1.isSome) = true := by rfl) (hks : (backToKw pos (keywordEach kws X.env)).filterMap (·.1) = ks := by rfl)
    (hpl : ((backTo pos (starEach [] X.env)).any (·.1) || (backToKw pos (keywordEach kws X.env)).any (·.1.isNone)) = false := by rfl)
    (ht : eval (.Call fe [] kws pos) X.env = (do callWith pos (← eval fe X.env) [] (backTo pos (starEach [] X.env)) (backToKw pos (keywordEach kws X.env))) := by rfl) : PE X (.Call fe [] kws pos) (tCallOK C sp gV E tf tk) := by
  refine ⟨fun pins s σ H Q I h => ?_⟩
  rw [ht]
  refine wpAny_bind (thn (hf.run pins s σ H _ I h) fun u s1 ⟨y, H1, I1, ry, p, ey, q⟩ => ?_)
  subst ey
  obtain rfl : u = Value.ref p := ry
  refine callK_of hpl (PyProof.Rows.evalArgs_kw2_nil hall (thn (hkw.run pos pins s1 σ H1 _ I1 q) fun ws s2 ⟨zs, H2, I2, rz, ⟨dx, fs, hi⟩, q2⟩ => ?_))
  obtain ⟨ox, od, J, hd⟩ := StX.insC_at (X := X) I2 (.inr ⟨dx, fs, hi⟩)
  refine ⟨⟨C, ox, od, J, hd⟩, ?_⟩
  rw [hks]
  have r2 := hb.rel (vs := [.ref p]) (us := [.ref p]) (.cons rfl .nil) rz
  have hl : (gg [.ref p] ws).length = ps.length := by rw [← r2.length]; exact F.len _ _ _ _ q2
  refine wpAny_call (PySem.W.kco_code (a := ⟨[] ++ [], ks.zip ws⟩) I2.kIn J hd c.at_ c.fn c.fi (codeAny_mono (F.run X.A X.stack s2 H2 ⟨[.ref p], ks.zip ws⟩ (gg [.ref p] ws) (gV [.ref p] zs) Q E hr I2.env0 (hb.to s2 [.ref p] ws I2.kIn hl) r2 q2) fun r s' hq => ?_))
  cases r with
  | error e => exact hx pins σ H2 s2 e s' I2 hq
  | ok fl =>
    cases fl with
    | ret u => exact I2.after hq
    | next => exact False.elim hq
    | brk => exact False.elim hq
    | cont => exact False.elim hq
end
theorem two {p : Addr → Prop} {c1 c2 : Addr} (a1 : p c1) (a2 : p c2) : ∀ c ∈ [c1, c2], p c := List.forall_mem_cons.mpr ⟨a1, List.forall_mem_cons.mpr ⟨a2, List.forall_mem_nil _⟩⟩
theorem off2 {c c1 c2 : Addr} (h : c ∉ [c1, c2]) : c ≠ c1 ∧ c ≠ c2 := by
  simp only [List.mem_cons, List.not_mem_nil, or_false, not_or] at h
  exact h
/-! the items of a tuple, counted -/
theorem enum1_meets {v : Value} {o : Obj} {St : Heap → Prop} (B : Begins v o St) : Meets (Builtin.«enumerate.__new__» ⟨[.type "enumerate", v], []⟩) (fun _ R s => St s.heap ∧
    R (.ok (.ret (.ref (s.heap.push o).objs.size))) { s with heap := (s.heap.push o).push { cls := .type "enumerate", data := .fields #[.none, .bool false, .ref s.heap.objs.size, rawInt 0, .none, .none] } }) :=
  .of_wp fun prog w A R ⟨hp, gn, dr, tk, os⟩ ⟨st, go⟩ => by
    have is_a := sub_enumerate
    have it1 : ∀ {A' : Around} {E Q : Value → Shared → Prop}, Q (.ref hp.objs.size) ⟨hp.push o, gn, dr, tk, os⟩ → wpAny (model prog w) A' (pyIter v) Q E ⟨hp, gn, dr, tk, os⟩ := fun q => B.iter prog w _ _ ⟨hp, gn, dr, tk, os⟩ _ st q
    wp_walk using it1
    refine wpAny_stack_any fun stack => wpAny_pure ?_
    split
    · rename_i c _ _ _ _ _
      cases (c == Value.type "enumerate") <;> (wp_walk using it1; exact ⟨_, rfl, go⟩)
    · wp_walk using it1
      exact ⟨_, rfl, go⟩
structure CountTo (b e it : Addr) (i : Nat) (h : Heap) : Prop where
  en : ∃ old, IsEnum h e it (i : Int) old
  tup : h.IsTupleIter it b i
section
variable {b e it : Addr} {i : Nat} {h h' : Heap}
theorem CountTo.obj (q : CountTo b e it i h) : ∀ c ∈ [e, it], ∃ o, h.get? c = some o ∧ ∀ v, o.data ≠ .cell v := by
  obtain ⟨old, he⟩ := q.en
  obtain ⟨p1, g1, _, n1⟩ := q.tup
  exact two ⟨_, he, nofun⟩ ⟨p1, g1, by rw [n1]; exact nofun⟩
theorem CountTo.lt (q : CountTo b e it i h) : ∀ c ∈ [e, it], c < h.objs.size := fun c m => let ⟨_, g, _⟩ := q.obj c m; Heap.lt_size g
theorem CountTo.keep (q : CountTo b e it i h) (k : ∀ c ∈ [e, it], ∀ o, h.get? c = some o → h'.get? c = some o) : CountTo b e it i h' := by
  obtain ⟨old, he⟩ := q.en
  refine ⟨⟨old, k e ?_ _ he⟩, q.tup.at fun o e => k it ?_ o e⟩ <;> simp
end
def ItEt (K : PySem.W.Frag) (b : Addr) : It :=
  ⟨fun i H => ∃ (ys : List V) (y : V), SqT K H b ys ∧ ys[i]? = some y, fun i H v H' => ∃ (T : Addr) (y : V), v = .ref T ∧ H T = none ∧ H' = upd H T (.tup [.int (i : Nat), y]) ∧ ∀ ys, SqT K H b ys → ys[i]? = some y, fun i H => ∃ ys : List V, SqT K H b ys ∧ i = ys.length⟩
theorem turn_enT {P : Program} {w : World} {K : PySem.W.Frag} {elts : List Expr} {kk : Nat} {tpos : Pos} {b e it : Addr} (ne : e ≠ it) (hb : b ≠ it) (hbe : e ≠ b) :
    Turn P w K (.Tuple elts kk tpos) (ItEt K b) [e, it] e (CountTo b e it) where
  mem := List.mem_cons_self ..
  obj := fun _ _ q => q.obj
  keep := fun _ _ _ q k => q.keep k
  self := fun _ _ _ _ _ q k => let ⟨_, he⟩ := q.en; wpAny_pyIter_enum he k
  item := by
    intro X e1 e2 e3 calm i pins s σ H E I free st more
    subst e1 e2 e3
    have quiet : X.A.in1.handled = none := I.ok.hd calm
    obtain ⟨ys, y, seq, hy⟩ := more
    obtain ⟨us, ru, isT, _⟩ := I.tuple seq
    obtain ⟨u, hu, ry⟩ := ru.get hy
    obtain ⟨old, he⟩ := st.en
    have in1 : i < us.toArray.size := by simpa using (List.getElem?_eq_some_iff.mp hu).1
    refine wpAny_pyNext_enum_itemC (Draws.tuple quiet it b hb us.toArray) he ⟨st.tup, isT⟩ in1 ne (fun m => by
      rcases List.mem_cons.mp m with z | m
      · exact ne z
      · exact hbe (List.mem_singleton.mp m)) fun w1 g tk src out s1 gT _ rest => ?_
    obtain rfl : u = w1 := Option.some.inj ((show us.toArray[i]? = some u by simpa using hu).symm.trans src)
    have elt := st.lt e (List.mem_cons_self ..)
    refine ⟨_, rfl, wpAny_letOwnedTupleGo_enum (s := { s with heap := g, toks := tk + 1 }) out fun g' en' but => ?_⟩
    have gT' := (but.2 _ (Nat.ne_of_gt elt)).trans gT
    have pair : ObjOk X.prog X.w (upd H s.heap.objs.size (.tup [.int (i : Nat), y])) g' s.heap.objs.size (.tup [.int (i : Nat), y]) := ⟨by show 2 ≤ sizeLine; decide, [.int (i : Nat) tk, u], .cons ⟨tk, rfl⟩ (.cons ry .nil), ⟨_, gT', rfl, _, rfl⟩⟩
    have far : ∀ c' o, c' ∉ [e, it] → s.heap.get? c' = some o → g'.get? c' = some o := fun c' o n q => by
      obtain ⟨n1, n2⟩ := off2 n
      exact (but.2 c' n1).trans (rest c' o n1 n2 q)
    refine ⟨.ref s.heap.objs.size, _, I.turnedNew (t' := tk + 1) (ch := [e, it]) far free (Nat.le_refl _) pair, rfl, ⟨_, y, rfl, I.hok.fresh (Nat.le_refl _), rfl, fun l hl => by rw [I.tuple_inj hl seq]; exact hy⟩, ?_, fun c' m => ?_⟩
    · refine ⟨⟨u, ?_⟩, s1.1.at fun o q => (but.2 _ ne.symm).trans q⟩
      rw [show ((i + 1 : Nat) : Int) = (i : Int) + 1 by omega]
      exact en'
    · exact (upd_ne (Nat.ne_of_lt (st.lt c' m))).trans (free c' m).1
  done := by
    intro X e1 e2 e3 calm i pins s σ H E I free st over
    subst e1 e2 e3
    obtain ⟨ys, seq, rfl⟩ := over
    obtain ⟨us, ru, isT, _⟩ := I.tuple seq
    have quiet : X.A.in1.handled = none := I.ok.hd calm
    have size : us.toArray.size = ys.length := by rw [ru.length]; simp
    obtain ⟨old, he⟩ := st.en
    refine wpAny_pyNext_enum_endD (Draws.tuple quiet it b hb us.toArray) he ⟨?_, isT⟩ fun g rest => ⟨rfl, I.turnedL (t' := s.toks) (ch := [e, it]) (fun c o n q => rest c o (off2 n).2 q) free⟩
    rw [size]
    exact st.tup
def iEnT (K : PySem.W.Frag) (te : TE) : TI := fun σ H R => te σ H fun v H1 => ∃ b ys, v = .ref b ∧ SqT K H1 b ys ∧ R (ItEt K b) H1
theorem pi_enT {X : Cx} {d : Expr} {te : TE} {p pos tpos : Pos} {elts : List Expr} {kk : Nat} (hg : Gl X "enumerate") (hm : X.mg "enumerate" = none) (ha : PE X d te) (flat : starEach [d] X.env = (false, eval d X.env) :: starEach [] X.env := by rfl)
    (plain : (backTo pos (starEach [] X.env)).any (·.1) = false := by rfl) : PI X (.Tuple elts kk tpos) (.Call (.Name "enumerate" p) [d] [] pos) (iEnT X.K te) where
  run := fun pins s σ H R I start => by
    have one : PA X [d] (tCons te tNil) := pa_cons (hs := flat) ha pa_nil
    refine Call_ (ld_blt I hg hm PyProof.Rows.boot_enumerate (PyProof.Rows.callWith_type1 (thn (one.run pos pins s σ H (fun vs H1 => ∃ b ys, vs = [.ref b] ∧ SqT X.K H1 b ys ∧ R (ItEt X.K b) H1) I ?st) fun us s1 ⟨vs, H1, J, r, q⟩ => ?_) flat plain))
    case st =>
      show te σ H fun v H1 => ∃ b ys, [v] = [V.ref b] ∧ SqT X.K H1 b ys ∧ R (ItEt X.K b) H1
      have : (fun v H1 => ∃ b ys, v = V.ref b ∧ SqT X.K H1 b ys ∧ R (ItEt X.K b) H1) = fun v H1 => ∃ b ys, [v] = [V.ref b] ∧ SqT X.K H1 b ys ∧ R (ItEt X.K b) H1 := by
        funext v H1
        simp
      rw [← this]
      exact start
    obtain ⟨b, ys, ev, seq, go⟩ := q
    subst ev
    cases r with | cons q1 q2 => ?_
    cases q2
    cases q1
    obtain ⟨ws, _, isT, _⟩ := J.tuple seq
    have bl : b < s1.heap.objs.size := let ⟨_, ho, _⟩ := id isT; Heap.lt_size ho
    have young : ∀ j, FpOk X pins H1 (s1.heap.objs.size + j) := fun j => J.fpOk (Nat.le_add_right ..) (J.hok.fresh (Nat.le_add_right ..))
    refine callType_new F.called_enumerate (by decide) (F.typeCall_enumerate_1 _) (F.newCall_enumerate_1 _) (fun obj => F.args_object_init_2 obj _) F.entry_enumerate_new (enum1_meets (begins_tuple b ws.toArray)) ⟨show s1.heap.IsTuple b ws.toArray from isT, ?_⟩
    have size : (s1.heap.push { cls := .type "tuple_iterator", data := .fields #[.ref b, .int 0 0] }).objs.size = s1.heap.objs.size + 1 := Heap.size_push ..
    show _ ∧ _
    rw [size]
    have new := Heap.get?_push_size (s1.heap.push { cls := .type "tuple_iterator", data := .fields #[.ref b, .int 0 0] }) (o := { cls := .type "enumerate", data := .fields #[.none, .bool false, .ref s1.heap.objs.size, rawInt 0, .none, .none] }) rfl
    rw [size] at new
    refine ⟨⟨_, new, rfl⟩, wpAny_pyIter_enum new ?_⟩
    exact ⟨s1.heap.objs.size + 1, _, CountTo b (s1.heap.objs.size + 1) s1.heap.objs.size, ItEt X.K b, H1, rfl, J.kept (t' := s1.toks) fun c o q => Heap.get?_push_of_some _ (Heap.get?_push_of_some _ q), turn_enT (Nat.succ_ne_self _) (Nat.ne_of_lt bl) (Nat.ne_of_gt (Nat.lt_succ_of_lt bl)), ⟨⟨_, new⟩, ⟨_, Heap.get?_push_of_some _ (Heap.get?_push_size _ rfl), rfl, rfl⟩⟩, two (young 1) (young 0), go⟩

end KF
set_option Elab.async false
set_option linter.all false
set_option maxRecDepth 100000
set_option maxHeartbeats 4000000
namespace KF
open PySem PySem.Spec PyProof.Rows L2 Evl
/-! ### sums of tuples of bools; slices, sums, comprehensions of tuples; divmod -/
theorem pre_bools (bs : List Bool) : ∀ n, n ≤ bs.length → preSum (fun i => if bs.getD i false = true then 1 else 0) n = (upTo (fun i => bs.getD i false) n : Nat)
  | 0, _ => rfl
  | n + 1, h => by
    rw [preSum, pre_bools bs n (by omega), upTo_succ]
    split <;> simp
def rSumB (K : PySem.W.Frag) : List V → Hp → VK → Prop := fun vs H Q => ∃ (a : Addr) (bs : List Bool), vs = [V.ref a] ∧ SqT K H a (bs.map V.bl) ∧ Q (.int (cnt bs : Nat)) H
theorem call_sumB {X : Cx} (hc : X.calm = true) : CallR X (.builtin "sum") (rSumB X.K) := by
  intro pins s σ H vs us Q I r h
  obtain ⟨a, bs, rfl, hs, q⟩ := h
  obtain ⟨its, rv, ht, _⟩ := I.tuple hs
  rw [Vals.ref1 r]
  have hb := rv.bls
  have ht : s.heap.IsTuple a its.toArray := ht
  obtain ⟨o, ho, hcl, n, hd⟩ := id ht
  have hne : a ≠ s.heap.objs.size := Nat.ne_of_lt (Heap.lt_size ho)
  have hsz : its.toArray.size = bs.length := by rw [hb]; simp
  have W := (Walks.tuple (prog := X.prog) (w := X.w) (A := X.A.in1) (I.ok.hd hc) s.heap.objs.size a hne its.toArray).toS
  rw [hsz] at W
  refine call_sum_walkAnyB (wpAny_pyIter_tuple ht ?_)
  refine ⟨s.heap.objs.size, _, _, _, _, _, _, fun i => if bs.getD i false = true then 1 else 0, rfl, W, ⟨⟨_, Heap.get?_push_size _ rfl, rfl, rfl⟩, ht.at fun o e => Heap.get?_push_of_some _ e⟩, fun b hb => ?_, fun i v hP => ?_, fun s' t' hm => ?_⟩
  · rcases List.mem_cons.mp hb with rfl | hb
    · exact Heap.lt_size (Heap.get?_push_size _ rfl)
    · obtain rfl := List.mem_singleton.mp hb
      exact Heap.lt_size (Heap.get?_push_of_some _ ho)
  · have hv' : its[i]? = some v := by simpa using hP
    rw [hb, List.getElem?_map] at hv'
    obtain ⟨b, hb2, rfl⟩ := Option.map_eq_some_iff.mp hv'
    exact .inr ⟨b, rfl, by
      show (if bs.getD i false = true then (1 : Int) else 0) = _
      rw [List.getD_eq_getElem?_getD, hb2] <;> rfl⟩
  · obtain ⟨h', g', d', tk', os'⟩ := s'
    have e1 : g' = s.gens := hm.gens
    have e2 : d' = s.drawn := hm.drawn
    have e3 : os' = s.os := hm.os
    subst e1 e2 e3
    refine ⟨.int _, H, I.kept fun b o e => hm.heap b o (fun hb => absurd (Heap.lt_size e) ((List.mem_singleton.mp hb) ▸ Nat.lt_irrefl _)) (Heap.get?_push_of_some _ e), ⟨_, rfl⟩, ?_⟩
    rw [pre_bools bs _ (Nat.le_refl _), upTo_take bs _ (Nat.le_refl _), List.take_length]
    exact q
/-- a tuple, made or old -/
def EvX (te : TE) (σ : L2.St) (H : Hp) (xs : List V) : Prop := ∀ H1, Ex H H1 → ∀ Q : VK, (∀ p H2, Ex H1 H2 → H2 p = some (.tup xs) → Q (.ref p) H2) → te σ H1 Q
section
variable {σ : L2.St} {K : PySem.W.Frag} {H H' : Hp} {tx te ta tb tv : TE} {u t : TT} {v x y z : V} {r : R2} {D : Ends} {tz : TS}
theorem ew_of {p : Addr} {xs : List V} (h : Ev te σ H (.ref p)) (hp : H p = some (.tup xs)) : EvX te σ H xs := fun H1 e Q q => h H1 e _ fun H2 e2 => q p H2 e2 ((e.trans e2) _ _ hp)
theorem ew_u {xs : List V} (h : EvU te σ H xs) : EvX te σ H xs := fun H1 e Q q => h H1 e _ fun p H2 _ e2 h2 => q p H2 e2 h2
theorem ew_is {xs ys : List V} (h : EvX te σ H xs) (e : xs = ys) : EvX te σ H ys := e ▸ h
theorem cut_whole {xs : List V} {lo hi : Option Int} (h : HT.sIx xs.length 0 lo = 0 ∧ HT.sIx xs.length xs.length hi = xs.length) : cutV xs lo hi = xs := by
  unfold cutV
  rw [h.1, h.2, List.drop_zero, Nat.sub_zero, List.take_length]
/-- t[lo:hi] -/
theorem ew_sl {tl th : TO} {lo hi : Option Int} {xs : List V} (h : EvX te σ H xs) (h1 : EvO tl σ H lo) (h2 : EvO th σ H hi) : EvX (tSl (rSlA K) te tl th) σ H (cutV xs lo hi) := fun H1 e Q q =>
  h H1 e _ fun p H2 e2 hp => h1 H2 (e.trans e2) _ fun H3 e3 => h2 H3 ((e.trans e2).trans e3) _ fun H4 e4 => ⟨p, xs, rfl, st_of ((e3.trans e4) _ _ hp), fun hw => q p H4 ((e2.trans e3).trans e4) (by rw [cut_whole hw]; exact (e3.trans e4) _ _ hp), fun _ l hl => q l _ (((e2.trans e3).trans e4).trans (Ex.new hl)) upd_same⟩
/-- t + u -/
theorem ew_cat {xs ys : List V} (h1 : EvX ta σ H xs) (h2 : EvX tb σ H ys) (hz : xs.length + ys.length ≤ 100000) : EvX (tOp (rCatA K) ta tb) σ H (xs ++ ys) := fun H1 e Q q =>
  h1 H1 e _ fun p H2 e2 hp => h2 H2 (e.trans e2) _ fun l H3 e3 hl => ⟨p, l, xs, ys, rfl, rfl, st_of (e3 _ _ hp), st_of hl, sz_of hz, fun n => q l H3 (e2.trans e3) (by rw [n]; exact hl), fun _ n => q p H3 (e2.trans e3) (by rw [n, List.append_nil]; exact e3 _ _ hp), fun _ _ a ha => q a _ ((e2.trans e3).trans (Ex.new ha)) upd_same⟩
theorem ev_sumB {bs : List Bool} (h : EvX te σ H (bs.map V.bl)) : Ev (tCB (rSumB K) (tCons te tNil)) σ H (.int (cnt bs : Nat)) := fun H1 e Q q => h H1 e _ fun p H2 e2 hp => ⟨p, bs, rfl, st_of hp, q H2 e2⟩
theorem el_listW {xs : List V} (h : EvX te σ H xs) : EvL (tCB (fun xs H Q => ∃ p ys, xs = [V.ref p] ∧ (SqL K H p ys ∨ SqT K H p ys) ∧ ∀ l, H l = none → Q (.ref l) (upd H l (.lst ys))) (tCons te tNil)) σ H xs := fun H1 e Q q =>
  h H1 e _ fun p H2 e2 h2 => ⟨p, xs, rfl, .inr (st_of h2), fun l hl => q l _ (fresh_back e2 hl) (e2.trans (Ex.new hl)) upd_same⟩
theorem ev_lenW {xs : List V} (h : EvX te σ H xs) : Ev (tCB (fun xs H Q => ∃ p ys, xs = [V.ref p] ∧ (SqL K H p ys ∨ SqT K H p ys) ∧ Q (.int (ys.length : Nat)) H) (tCons te tNil)) σ H (.int (xs.length : Nat)) := fun H1 e Q q =>
  h H1 e _ fun p H2 e2 h2 => ⟨p, xs, rfl, .inr (st_of h2), q H2 e2⟩
theorem ev_lenN {xs : List V} (h : EvL te σ H xs) : Ev (tCB (fun xs H Q => ∃ p ys, xs = [V.ref p] ∧ (SqL K H p ys ∨ SqT K H p ys) ∧ Q (.int (ys.length : Nat)) H) (tCons te tNil)) σ H (.int (xs.length : Nat)) := fun H1 e Q q =>
  h H1 e _ fun p H2 _ e2 h2 => ⟨p, xs, rfl, .inl (sq_of h2), q H2 e2⟩
/-- a comprehension over a tuple, made or old -/
theorem el_lcW {xs : List V} {tl : TE} {j : Nat} {vs : List Nat} (f : Nat → Bool) (v : Nat → V) (h : EvX tl σ H xs) (hz : xs.length ≤ 40000) (hw : ∀ x, wipe ((wipe σ vs).set j (some x)) vs = wipe σ vs)
    (ht : ∀ (i : Nat) (x : V) H1, Ex H H1 → xs[i]? = some x → EvT t ((wipe σ vs).set j (some x)) H1 (f i)) (he : ∀ (i : Nat) (x : V) H1, Ex H H1 → xs[i]? = some x → f i = true → Ev te ((wipe σ vs).set j (some x)) H1 (v i)) :
    EvL (tLc (iTup K tl) (gName j) t te vs) σ H (given xs.length f v) := fun H0 e Q q => h H0 e _ fun a H1 e1 hx => ⟨a, rfl, ⟨xs, st_of hx⟩, fun Dl hD =>
  lc_tup (xs := xs) (Cw H1 f v Dl) ⟨hD, Ex.new hD, upd_same⟩ (fun i H' _ p => st_of (p.2.1 _ _ hx)) (fun i x H' hi p => ⟨hw x, cw_turn p (by have := (List.getElem?_eq_some_iff.mp hi).1; omega) (ht i x H1 (e.trans e1) hi) (fun hf => he i x H1 (e.trans e1) hi hf)⟩)
    (fun H' p => q Dl H' (fresh_back e1 p.1) (e1.trans p.2.1) p.2.2)⟩
/-- a comprehension over enumerate(tuple) -/
theorem el_lcEn {b : Addr} {ys : List V} {tl : TE} {i1 i2 : Nat} {vs : List Nat} (f : Nat → Bool) (v : Nat → V) (h : Ev tl σ H (.ref b)) (hb : SqT K H b ys) (hz : ys.length ≤ 40000)
    (hw : ∀ x y, wipe (((wipe σ vs).set i1 (some x)).set i2 (some y)) vs = wipe σ vs)
    (ht : ∀ (i : Nat) (y : V) H1, Ex H H1 → ys[i]? = some y → EvT t (((wipe σ vs).set i1 (some (.int (i : Nat)))).set i2 (some y)) H1 (f i)) (he : ∀ (i : Nat) (y : V) H1, Ex H H1 → ys[i]? = some y → f i = true → Ev te (((wipe σ vs).set i1 (some (.int (i : Nat)))).set i2 (some y)) H1 (v i)) :
    EvL (tLc (iEnT K tl) (gTup K 2 (gCons (gName i1) (gCons (gName i2) gNil))) t te vs) σ H (given ys.length f v) := fun H0 e Q q => h H0 e _ fun H1 e1 => ⟨b, ys, rfl, ex_t (e.trans e1) hb, fun Dl hD =>
  ⟨fun i m H' => m = ys.length - i ∧ i ≤ ys.length ∧ Cw H1 f v Dl i H', ⟨ys.length, by simp, Nat.zero_le _, hD, Ex.new hD, upd_same⟩, by
    rintro i m H' ⟨rfl, hi, p⟩
    have hb' : SqT K H' b ys := ex_t ((e.trans e1).trans p.2.1) hb
    by_cases hlt : i < ys.length
    · refine .inr ⟨⟨ys, ys[i], hb', by simp [hlt]⟩, Cw H1 f v Dl (i + 1), fun H2 p' => ⟨ys.length - (i + 1), by omega, rfl, hlt, p'⟩, ?_⟩
      rintro x H2 ⟨T, y, rfl, hT, rfl, hy⟩
      have hy' := hy ys hb'
      have e2 : Ex H' (upd H' T (.tup [.int (i : Nat), y])) := Ex.new hT
      have p' : Cw H1 f v Dl i (upd H' T (.tup [.int (i : Nat), y])) := ⟨p.1, p.2.1.trans e2, e2 _ _ p.2.2⟩
      exact ⟨T, _, rfl, st_of upd_same, rfl, _, _, rfl, _, _, rfl, rfl, hw _ _, cw_turn p' (by omega) (ht i y H1 (e.trans e1) hy') (fun hf => he i y H1 (e.trans e1) hy' hf)⟩
    · have e2 : i = ys.length := by omega
      subst e2
      exact .inl ⟨⟨ys, hb', rfl⟩, q Dl H' (fresh_back e1 p.1) (e1.trans p.2.1) p.2.2⟩⟩⟩
/-- a, b = divmod(x, y) -/
theorem q_divmod {i j : Nat} {a b : Int} (h1 : Ev ta σ H (.int a)) (h2 : Ev tb σ H (.int b)) (h0 : 0 < b) (hb : b < 1073741824) (k : ∀ H1, Ex H H1 → tz D ((σ.set i (some (.int (a / b)))).set j (some (.int (a % b)))) H1) :
    tSeq (tAsg (tCB (fun xs H Q => ∃ i j, xs = [V.int i, V.int j] ∧ CDiv i j ∧ ∀ p, H p = none → Q (.ref p) (upd H p (.tup [.int (i / j), .int (i % j)]))) (tCons ta (tCons tb tNil))) (gTup K 2 (gCons (gName i) (gCons (gName j) gNil)))) tz D σ H :=
  h1 H (Ex.refl H) _ fun H1 e1 => h2 H1 e1 _ fun H2 e2 => ⟨a, b, rfl, ⟨h0, hb⟩, fun p hp => ⟨p, _, rfl, st_of upd_same, rfl, _, _, rfl, _, _, rfl, rfl, k _ ((e1.trans e2).trans (Ex.new hp))⟩⟩
end
/-! ### tuples of bools as data -/
theorem dp_bools {K : PySem.W.Frag} {H : Hp} : ∀ bs : List Bool, DpAll K H (bs.map V.bl) (bs.map PyData.bool)
  | [] => .nil
  | b :: bs => .cons (.bl b) (dp_bools bs)
theorem vals_flat : ∀ bs : List Bool, (bs.map V.bl).all flatV = true
  | [] => rfl
  | _ :: bs => vals_flat bs
theorem true_in : ∀ bs : List Bool, inV (.bl true) (bs.map V.bl) = decide (0 < cnt bs)
  | [] => rfl
  | b :: bs => by
    have ih := true_in bs
    unfold inV at ih ⊢
    rw [List.map_cons, List.any_cons, ih]
    cases b with
    | true => simp [cnt, eqV]
    | false => simp [cnt, eqV]
theorem eqv_bools : ∀ xs ys : List Bool, PyData.eqvAll (xs.map PyData.bool) (ys.map PyData.bool) = decide (xs = ys)
  | [], [] => by simp [PyData.eqvAll]
  | [], _ :: _ => by simp [PyData.eqvAll]
  | _ :: _, [] => by simp [PyData.eqvAll]
  | x :: xs, y :: ys => by
    simp only [List.map_cons, PyData.eqvAll, eqv_bools xs ys]
    cases x <;> cases y <;> simp [PyData.eqv]
end KF
set_option Elab.async false
set_option linter.all false
set_option maxRecDepth 100000
set_option maxHeartbeats 4000000
namespace KF
open PySem PySem.Spec PyProof.Rows L2 Evl
theorem lay_bools : ∀ bs : List Bool, PyData.canLayAll0 (bs.map PyData.bool) = true
  | [] => by simp [PyData.canLayAll0]
  | b :: bs => by simp [PyData.canLayAll0, PyData.canLay0, lay_bools bs]
theorem depth_bools : ∀ bs : List Bool, PyData.depthAll (bs.map PyData.bool) = 0
  | [] => by simp [PyData.depthAll]
  | b :: bs => by simp [PyData.depthAll, PyData.depth, depth_bools bs]
theorem weight_bools : ∀ bs : List Bool, PyData.weightAll (bs.map PyData.bool) ≤ 2 * bs.length
  | [] => by simp [PyData.weightAll]
  | b :: bs => by
    have := weight_bools bs
    simp only [List.map_cons, PyData.weightAll, PyData.weight, List.length_cons]
    omega
theorem show_bools : ∀ bs : List Bool, PyData.showableAll (bs.map PyData.bool) = true
  | [] => by simp [PyData.showableAll]
  | b :: bs => by simp [PyData.showableAll, PyData.showable, show_bools bs]
theorem nodict_bools : ∀ bs : List Bool, PyData.hasDictAll (bs.map PyData.bool) = false
  | [] => by simp [PyData.hasDictAll]
  | b :: bs => by simp [PyData.hasDictAll, PyData.hasDict, nodict_bools bs]
theorem shaped_tup (bs : List Bool) : SeqAt.shaped (.tuple (bs.map PyData.bool)) = true := by
  unfold SeqAt.shaped
  simp [PyData.canLay0, PyData.depth, lay_bools, depth_bools]
def partD (l p : Nat) (bs : List Bool) : PyData := .list [.int (l : Nat), .int (p : Nat), .tuple (bs.map PyData.bool)]
theorem log_small {n : Nat} (h : n < 1000) : ((n : Nat) : Int).natAbs.log2 < 1920 := by
  have e : ((n : Nat) : Int).natAbs = n := Int.natAbs_natCast n
  rw [e]
  by_cases z : n = 0
  · subst z; decide
  · exact Nat.lt_trans ((Nat.log2_lt z).mpr (Nat.lt_trans h (by decide : 1000 < 2 ^ 10))) (by decide)
theorem part_fits {l p : Nat} {bs : List Bool} (hl : l < 1000) (hp : p < 1000) (hb : bs.length ≤ 100) : (partD l p bs).showable = true ∧ (partD l p bs).hasDict = false ∧ (partD l p bs).depth ≤ 60 ∧ (partD l p bs).shown.length ≤ sizeLine := by
  have s1 := log_small hl
  have s2 := log_small hp
  refine ⟨?_, ?_, ?_, ?_⟩
  · unfold partD
    simp only [PyData.showable, PyData.showableAll, show_bools, Bool.and_true, Bool.and_eq_true, decide_eq_true_eq]
    exact ⟨s1, s2⟩
  · unfold partD
    simp [PyData.hasDict, PyData.hasDictAll, nodict_bools]
  · unfold partD
    simp [PyData.depth, PyData.depthAll, depth_bools]
  · refine PyData.shown_fits_of_layable0 (B := 13) (by decide) (by decide) ?_ ?_
    · unfold partD PyData.layable0
      have w := weight_bools bs
      simp only [PyData.canLay0, PyData.canLayAll0, PyData.depth, PyData.depthAll, PyData.weight, PyData.weightAll, lay_bools, depth_bools, Bool.and_true, Bool.true_and, Bool.and_eq_true, decide_eq_true_eq]
      refine ⟨by decide, ?_⟩
      refine decide_eq_true ?_
      have z : (2 : Nat) ^ 20 = 1048576 := by decide
      rw [z]
      split <;> split <;> omega
    · unfold partD
      have i1 : (PyData.shown (.int (l : Nat))).length ≤ 13 := PyData.shown_int_le (by rw [Int.natAbs_natCast]; exact Nat.lt_trans hl (by decide))
      have i2 : (PyData.shown (.int (p : Nat))).length ≤ 13 := PyData.shown_int_le (by rw [Int.natAbs_natCast]; exact Nat.lt_trans hp (by decide))
      simp only [PyData.intsShort, PyData.intsShortAll, PyData.intsShortAll_bools, Bool.and_true, Bool.true_and, Bool.and_eq_true, decide_eq_true_eq]
      exact ⟨i1, i2⟩
def pairD (b : Bool) (n : Nat) : PyData := .list [.bool b, .int (n : Nat)]
theorem pair_fits : ∀ (b : Bool) (n : Nat), n < 61 → (pairD b n).showable = true ∧ (pairD b n).hasDict = false ∧ (pairD b n).depth ≤ 60 ∧ (pairD b n).shown.length ≤ sizeLine := by
  have h : ∀ b : Bool, ((List.range 61).all fun n => decide ((pairD b n).showable = true ∧ (pairD b n).hasDict = false ∧ (pairD b n).depth ≤ 60 ∧ (pairD b n).shown.length ≤ 1000)) = true := by decide +kernel
  intro b n hn
  obtain ⟨h1, h2, h3, h4⟩ := of_decide_eq_true (all_nat (h b) n hn)
  exact ⟨h1, h2, h3, Nat.le_trans h4 (by decide)⟩
end KF
set_option Elab.async false
set_option linter.all false
set_option maxRecDepth 100000
set_option maxHeartbeats 4000000
namespace PySem.KOX
open PySem PySem.Spec PyProof.Rows L2 Evl
/-! ### an own error, made by keywords too -/
section
variable {prog : Program} {w : World} {A : Around} {E : Value → Shared → Prop} {R : Result → Shared → Prop} {hp : Heap} {gs : Array GenState} {dr : Drawn} {tk : Nat} {os : OsState}
variable {nm qn : Str} {C N : Addr} {bs bm bmB : List Value} {hdct : Bool} {sn : List Str} {sub : List Value} {ab : Bool} {col : Option Bool} {dd : Option Addr} {k0 k1 k2 k3 k5 : Option Value} {B nw iw : String}
theorem checked (F : ExcBaseFacts B nw iw bmB) (same : ∀ Y : String, bm.contains (.type Y) = bmB.contains (.type Y)) {us : List Value} {kw : List (Str × Value)} {Q : Unit → Shared → Prop}
    (cls : hp.get? C = some (excClassObj nm qn C N bs bm hdct sn sub ab col dd k0 k1 k2 k3 k5 nw)) (q : Q () ⟨hp, gs, dr, tk, os⟩) : wpAny (model prog w) A (checkBuiltinCall nw ⟨.ref C :: us, kw⟩) Q E ⟨hp, gs, dr, tk, os⟩ := by
  have has : (Value.ref C :: bm).contains (.type B) = true := by rw [List.contains_cons, same, F.hasB, Bool.or_true]
  have star := F.noStar
  simp only [checkBuiltinCall, F.newKind, F.newSplit, F.newRow]
  repeat (first | refine wpAny_loadPart_at cls ?_ | (refine wpAny_isSubtype_exc cls ?_; rw [has]) | refine wpAny_staticBase_exc cls ?_ | refine wpAny_madeBy_exc cls ?_ | simp only [bne_self_eq_false, Bool.false_eq_true, if_false] | wp_step)
  exact q
theorem newly (F : ExcBaseFacts B nw iw bmB) (same : ∀ Y : String, bm.contains (.type Y) = bmB.contains (.type Y)) {us : List Value} {kw : List (Str × Value)}
    (cls : hp.get? C = some (excClassObj nm qn C N bs bm hdct sn sub ab col dd k0 k1 k2 k3 k5 nw)) (few : us.length ≤ sizeLine)
    (q : R (.ok (.ret (.ref (hp.objs.size + 1)))) ⟨(hp.push (PySem.W.kdv_tup us)).push (PySem.HandSPX.excO C hp.objs.size), gs, dr, tk, os⟩) :
    codeAny (model prog w) A (.builtin nw ⟨.ref C :: us, kw⟩) R ⟨hp, gs, dr, tk, os⟩ := by
  have fin := F.ends
  have has : (Value.ref C :: bm).contains (.type B) = true := by rw [List.contains_cons, same, F.hasB, Bool.or_true]
  have notA : (Value.ref C :: bm).contains (.type "AttributeError") = false := by rw [List.contains_cons, same, F.noAttr]; rfl
  have notN : (Value.ref C :: bm).contains (.type "NameError") = false := by rw [List.contains_cons, same, F.noName]; rfl
  refine codeAny_builtinAt F.entry ?_
  unfold Builtin.«BaseException.__new__»
  refine PySem.wpAt_bind ?_
  show PySem.wpAt _ _ _ (stack >>= _) _ _ _
  refine PySem.wpAt_bind (PySem.wpAt_stack fun _ _ => PySem.wpAt_of_wpAny ?_)
  wp_walk
  refine PySem.wpAt_of_wpAny ?_
  rw [F.owner]
  repeat (first | with_reducible refine wpAny_madeHere_exc F.canon cls ?_ | with_reducible refine wpAny_loadPart_at cls ?_ | (with_reducible refine wpAny_isSubtype_exc cls ?_; first | rw [has] | rw [notA] | rw [notN]) | wp_step)
  show R _ _
  rw [Heap.size_push]
  exact q
theorem typeCall (F : ExcBaseFacts B nw iw bmB) (same : ∀ Y : String, bm.contains (.type Y) = bmB.contains (.type Y)) {us : List Value} {kw : List (Str × Value)} {fI : Addr} {Q : Fin → Shared → Prop}
    (cls : hp.get? C = some (excClassObj nm qn C N bs bm hdct sn sub ab col dd k0 k1 k2 k3 k5 nw))
    (ini : PySem.W.Looks (model prog w) hp (typeLookup (.ref C) "__init__") (some (.ref fI))) (bnd : ∀ self, PySem.W.Looks (model prog w) hp (bindSpecial (.ref fI) self) (.ref fI, [self])) (few : us.length ≤ sizeLine)
    (q : codeAny (model prog w) A (.call (.ref fI) ⟨.ref (hp.objs.size + 1) :: us, kw⟩)
      (fun r s' => match r with | .ok (.ret v) => v = .none ∧ Q (.done (.ret (.ref (hp.objs.size + 1)))) s' | .ok _ => False | .error e => E e s')
      ⟨(hp.push (PySem.W.kdv_tup us)).push (PySem.HandSPX.excO C hp.objs.size), gs, dr, tk, os⟩) :
    wpAny (model prog w) A (Builtin.«type.__call__» ⟨.ref C :: us, kw⟩) Q E ⟨hp, gs, dr, tk, os⟩ := by
  repeat (first | with_reducible refine wpAny_loadPart_at cls ?_ | with_reducible refine wpAny_madeBy_exc cls ?_ | wp_step)
  refine codeAny_call_builtin_code (Code.quiet_builtin _ F.quiet) (checked F same cls ?_)
  refine newly F same cls few ?_
  show wpAny _ _ _ _ _ _
  have old : ∀ b o, hp.get? b = some o → ((hp.push (PySem.W.kdv_tup us)).push (PySem.HandSPX.excO C hp.objs.size)).get? b = some o := fun b o e => Heap.get?_push_of_some _ (Heap.get?_push_of_some _ e)
  have cls1 := old _ _ cls
  have made : ((hp.push (PySem.W.kdv_tup us)).push (PySem.HandSPX.excO C hp.objs.size)).get? (hp.objs.size + 1) = some (PySem.HandSPX.excO C hp.objs.size) := by heap_get
  have own : (Value.ref C :: bm).contains (.ref C) = true := by simp
  have i1 := ini.keeps old
  have b1 := (bnd (.ref (hp.objs.size + 1))).keeps old
  unfold isInstance
  repeat (first | with_reducible refine wpAny_loadPart_at made ?_ | (with_reducible refine wpAny_isSubtype_exc cls1 ?_; rw [own]) | wp_step)
  show wpAny _ _ (typeLookup (.ref C) _) _ _ _
  refine i1.at ?_
  refine wpAny_holding (wpAny_bind (b1.at ?_))
  refine wpAny_bind (wpAny_call (codeAny_mono q fun r s' z => ?_))
  rcases r with e | (v | _ | _ | _) <;> first | exact z | exact z.elim | skip
  obtain ⟨rfl, z⟩ := z
  first
    | exact wpAny_pure (wpAny_pure z)
    | (wp_walk; exact z)
theorem callK (F : ExcBaseFacts B nw iw bmB) (same : ∀ Y : String, bm.contains (.type Y) = bmB.contains (.type Y)) {us : List Value} {kw : List (Str × Value)} {fI : Addr}
    (cls : hp.get? C = some (excClassObj nm qn C N bs bm hdct sn sub ab col dd k0 k1 k2 k3 k5 nw))
    (ini : PySem.W.Looks (model prog w) hp (typeLookup (.ref C) "__init__") (some (.ref fI))) (bnd : ∀ self, PySem.W.Looks (model prog w) hp (bindSpecial (.ref fI) self) (.ref fI, [self])) (few : us.length ≤ sizeLine)
    (q : codeAny (model prog w) (A.under (.builtin "type.__call__" ⟨.ref C :: us, kw⟩)) (.call (.ref fI) ⟨.ref (hp.objs.size + 1) :: us, kw⟩) (PySem.W.InitBack (hp.objs.size + 1) R)
      ⟨(hp.push (PySem.W.kdv_tup us)).push (PySem.HandSPX.excO C hp.objs.size), gs, dr, tk, os⟩) :
    codeAny (model prog w) A (.call (.ref C) ⟨us, kw⟩) R ⟨hp, gs, dr, tk, os⟩ := by
  have f1 := tc_lookup
  have f2 := tc_bind (.ref C)
  have isT : (⟨hp, gs, dr, tk, os⟩ : Shared).TypeIs (.ref C) "type" := ⟨_, cls, rfl⟩
  refine codeAny_of_tree ?_
  show wpAny _ _ (callAny (.ref C) _) _ _ _
  repeat (any_goals (first | assumption | with_reducible refine wpAny_loadPart_at cls ?_ | wp_step))
  refine ⟨rfl, ?_⟩
  refine codeAny_call_builtin_at (Code.quiet_builtin _ (by decide +kernel)) entry_typeCall (wpAny_check_type_call_sub cls (typeCall F same cls ini bnd few ?_))
  refine codeAny_mono q fun r s' z => ?_
  rcases r with e | (v | _ | _ | _) <;> exact z
end
end PySem.KOX
namespace KO
open PySem PySem.Spec PyProof.Rows L2 Evl
section
variable {X : Cx} {CX : CXT} {pins : List (Addr × Obj)} {σ : L2.St} {H : Hp} {s : Shared} {C fI : Addr} {k : Nat} {fd : FuncData} {ps ks : List Str} {sp : Sp} {E : XK} {x : Str} {p pos : Pos} {e : Expr} {es : List Expr} {kws : List Keyword} {ta tk : TA} {g : List Value → List Value → List Value} {gV : List V → List V → List V}
/-- C(..), C an error's class with an __init__ of its own, as a value -/
theorem run_exc {Q : VK} {us ws : List Value} {kw : List (Str × Value)} {vs : List V} (T : OexC X.K C) (iC : PySem.W.findIn X.K (.ref C) "__init__" = some (some (.ref fI))) (tI : PySem.W.typeIn X.K (.ref fI) = some (.type "function"))
    (F : FnOk X.prog X.w X.K X.mg X.base CX k fI fd ps sp) (hr : Room (k + 1) X.A) (hx : Passes CX X E) (I : Inv X pins σ H s) (few : us.length ≤ sizeLine)
    (bd : ∀ (s' : Shared) (a : Addr), X.K.In s'.heap → BindsTo s' fd ⟨.ref a :: us, kw⟩ (ps.zip (.ref a :: ws))) (r : Vals vs ws)
    (h : ∀ a, H a = none → sp (.ref a :: vs) (upd H a (exo a C none)) (fun v H2 => v = .non ∧ Q (.ref a) H2) E) : wpAny (model X.prog X.w) X.A (call (.ref C) us kw) (EP X pins σ Q) X.xe s := by
  obtain ⟨nm, q, N, bs, bm, sn, sub, ab, col, dd, k0, k1, k2, k3, k5, hC, hbm⟩ := T.cls
  obtain ⟨hp, gs, dr, tk, os⟩ := s
  have up : hp.objs.size ≤ hp.objs.size + 1 := Nat.le_succ _
  have fresh : H (hp.objs.size + 1) = none := I.hok.fresh up
  have told := h (hp.objs.size + 1) fresh
  have old : ∀ b o, hp.get? b = some o → ((hp.push (PySem.W.kdv_tup us)).push (PySem.HandSPX.excO C hp.objs.size)).get? b = some o := fun b o e => Heap.get?_push_of_some _ (Heap.get?_push_of_some _ e)
  have there : ((hp.push (PySem.W.kdv_tup us)).push (PySem.HandSPX.excO C hp.objs.size)).get? (hp.objs.size + 1) = some (PySem.HandSPX.excO C hp.objs.size) := by heap_get
  have I2 : Inv X pins σ (upd H (hp.objs.size + 1) (exo (hp.objs.size + 1) C none)) ⟨(hp.push (PySem.W.kdv_tup us)).push (PySem.HandSPX.excO C hp.objs.size), gs, dr, tk, os⟩ :=
    I.laid (t' := tk) (a := hp.objs.size + 1) (o := exo (hp.objs.size + 1) C none) (h' := (hp.push (PySem.W.kdv_tup us)).push (PySem.HandSPX.excO C hp.objs.size)) old up (exo_ok there)
  refine wpAny_call (PySem.KOX.callK PySem.F.excBase_ValueError (fun Y => PySem.HandSPX.refsVE_contains Y bm hbm) (I.kIn _ _ hC) (PySem.W.looks_findIn I.kIn iC) (fun self => PySem.W.bind_fn I.kIn self tI) few
    (codeAny_mono (F.run _ X.stack _ _ ⟨Value.ref (hp.objs.size + 1) :: us, kw⟩ (Value.ref (hp.objs.size + 1) :: ws) _ _ E (hr.make C us kw) (I2.env0.make C us kw) (bd _ _ I2.kIn) (.cons (show L2.RelV (V.ref (hp.objs.size + 1)) (Value.ref (hp.objs.size + 1)) from rfl) r) told) fun r s' back => ?_))
  cases r with
  | error er => exact hx pins σ _ _ er s' I2 back
  | ok fl =>
    cases fl with
    | ret u =>
      obtain ⟨v, H', I3, rv, ev, q3⟩ := I2.after back
      subst ev
      exact ⟨rv, ⟨V.ref (hp.objs.size + 1), H', I3, rfl, q3⟩⟩
    | next => exact False.elim back
    | brk => exact False.elim back
    | cont => exact False.elim back
/-- C(e, ..) -/
def tExc (C : Addr) (sp : Sp) (E : XK) (ta : TA) : TE := fun σ H Q => ta σ H fun vs H1 => vs.length ≤ 900 ∧ ∀ a, H1 a = none → sp (.ref a :: vs) (upd H1 a (exo a C none)) (fun v H3 => v = .non ∧ Q (.ref a) H3) E
theorem pe_exc (T : OexC X.K C) (iC : PySem.W.findIn X.K (.ref C) "__init__" = some (some (.ref fI))) (tI : PySem.W.typeIn X.K (.ref fI) = some (.type "function")) (F : FnOk X.prog X.w X.K X.mg X.base CX k fI fd ps sp) (hr : Room (k + 1) X.A) (hb : L2.Binds X.K fd ps [])
    (hx : Passes CX X E) (hg : Gl X x) (hm : X.mg x = some (.ref C)) (ha : PA X (e :: es) ta) (hdb : (x == ("__debug__" : Str)) = false := by decide) (he : starEach (e :: es) X.env = (false, eval e X.env) :: starEach es X.env := by rfl) (hpl : (backTo pos (starEach es X.env)).any (·.1) = false := by rfl) :
    PE X (.Call (.Name x p) (e :: es) [] pos) (tExc C sp E ta) := by
  refine ⟨fun pins s σ H Q I h => ?_⟩
  refine wpAny_Call_Name_kw (ld_glob I hg hm ?_ hdb)
  refine PySem.W.callWith_K (h₀ := X.base) I.ok.mod.kin T.kC (thn (ha.run pos pins s σ H _ I h) fun us s1 ⟨vs, H1, I1, r1, hz, q1⟩ => ⟨I1.kIn, ?_⟩) he hpl
  have few : us.length ≤ sizeLine := by
    rw [← Paired.length r1, sizeLine_eq]
    omega
  refine run_exc (kw := []) T iC tI F hr hx I1 few (fun s' a kin => ?_) r1 q1
  have len : (V.ref a :: vs).length = ps.length := by
    have z := F.len _ _ _ _ (q1 (s1.heap.objs.size) (I1.hok.fresh (Nat.le_refl _)))
    simpa using z
  have b := hb s' (.ref a :: us) kin (by
    rw [List.append_nil, ← len, List.length_cons, List.length_cons, Paired.length r1])
  rw [List.append_nil] at b
  exact b
/-- C() -/
theorem pe_exc0 (T : OexC X.K C) (iC : PySem.W.findIn X.K (.ref C) "__init__" = some (some (.ref fI))) (tI : PySem.W.typeIn X.K (.ref fI) = some (.type "function")) (F : FnOk X.prog X.w X.K X.mg X.base CX k fI fd ps sp) (hr : Room (k + 1) X.A) (hb : L2.Binds X.K fd ps [])
    (hx : Passes CX X E) (hg : Gl X x) (hm : X.mg x = some (.ref C)) (hdb : (x == ("__debug__" : Str)) = false := by decide) :
    PE X (.Call (.Name x p) [] [] pos) (tExc C sp E tNil) := by
  refine ⟨fun pins s σ H Q I h => ?_⟩
  refine wpAny_Call_Name_kw (ld_glob I hg hm ?_ hdb)
  refine PySem.W.callWith_K0 (s := s) I.kIn T.kC ?_
  obtain ⟨hz, q1⟩ := (show _ ∧ _ from h)
  refine run_exc (us := []) (kw := []) (vs := []) (ws := []) T iC tI F hr hx I (Nat.zero_le _) (fun s' a kin => ?_) .nil q1
  have len : ([V.ref a] : List V).length = ps.length := by
    have z := F.len _ _ _ _ (q1 (s.heap.objs.size) (I.hok.fresh (Nat.le_refl _)))
    simpa using z
  have b := hb s' [.ref a] kin (by
    rw [List.append_nil, ← len]
    rfl)
  rw [List.append_nil] at b
  exact b
/-- C(k = v, ..) -/
def tExcK (C : Addr) (m : Nat) (sp : Sp) (gV : List V → List V → List V) (E : XK) (tk : TA) : TE := fun σ H Q => tk σ H fun zs H1 => zs.length = m ∧ ∀ a, H1 a = none → sp (gV [.ref a] zs) (upd H1 a (exo a C none)) (fun v H3 => v = .non ∧ Q (.ref a) H3) E
theorem pe_excK {gs' : List V → List V} (T : OexC X.K C) (iC : PySem.W.findIn X.K (.ref C) "__init__" = some (some (.ref fI))) (tI : PySem.W.typeIn X.K (.ref fI) = some (.type "function")) (F : FnOk X.prog X.w X.K X.mg X.base CX k fI fd ps sp) (hr : Room (k + 1) X.A)
    (hb : KBn X.K fd ps 1 ks g gV) (hx : Passes CX X E) (hg : Gl X x) (hm : X.mg x = some (.ref C)) (hkw : PK X kws tk) (headV : ∀ a zs, gV [a] zs = a :: gs' zs) {gt : List Value → List Value} (headU : ∀ a ws, g [a] ws = a :: gt ws) 
    (hall : (backToKw pos (keywordEach kws X.env)).all (·.1.isSome) = true := by rfl) (hks : (backToKw pos (keywordEach kws X.env)).filterMap (·.1) = ks := by rfl) (hdb : (x == ("__debug__" : Str)) = false := by decide)
    (hpl : ((backTo pos (starEach [] X.env)).any (·.1) || (backToKw pos (keywordEach kws X.env)).any (·.1.isNone)) = false := by rfl) :
    PE X (.Call (.Name x p) [] kws pos) (tExcK C ks.length sp gV E tk) := by
  refine ⟨fun pins s σ H Q I h => ?_⟩
  refine wpAny_Call_Name_kw (ld_glob I hg hm ?_ hdb)
  refine PySem.W.callWith_KW0 (h₀ := X.base) I.ok.mod.kin T.kC hall ?_ hpl
  refine thn (hkw.run pos pins s σ H _ I h) fun ws s2 ⟨zs, H2, I2, rz, l2, q2⟩ => ⟨I2.kIn, ?_⟩
  rw [hks]
  have rel : Vals (gs' zs) (gt ws) := by
    have z := hb.rel (vs := [.ref 0]) (us := [.ref 0]) (.cons rfl .nil) rz
    rw [headV, headU] at z
    cases z with
    | cons _ t => exact t
  refine run_exc (us := []) T iC tI F hr hx I2 (Nat.zero_le _) (fun s' a kin => ?_) rel (fun a n => by rw [← headV]; exact q2 a n)
  rw [← headU]
  exact hb.to s' [.ref a] ws kin rfl (rz.length.symm.trans l2)
/-! ### an error held as a value: its fields, its classes -/
/-- at a: an error of the class D, with just these fields -/
def ExV (H : Hp) (a D : Addr) (fs : List (Str × V)) : Prop := (fs = [] ∧ H a = some (exo a D none)) ∨ ∃ dd, H a = some (exo a D (some dd)) ∧ H dd = some (exd dd fs)
theorem ExV.mono {H H' : Hp} {a D : Addr} {fs : List (Str × V)} (h : ExV H a D fs) (e : Ex H H') : ExV H' a D fs := by
  rcases h with ⟨h1, h2⟩ | ⟨dd, h1, h2⟩
  · exact .inl ⟨h1, e _ _ h2⟩
  · exact .inr ⟨dd, e _ _ h1, e _ _ h2⟩
theorem ExV.inst {a D : Addr} {fs : List (Str × V)} (I : Inv X pins σ H s) (h : ExV H a D fs) : ∃ oe od, PySem.W.InstAt s.heap a oe D od := by
  rcases h with ⟨_, h2⟩ | ⟨dd, h1, h2⟩
  · obtain ⟨t1, ho⟩ := exo_at I.hok h2
    exact ⟨_, none, ho, rfl, rfl, trivial⟩
  · obtain ⟨t1, ho⟩ := exo_at I.hok h1
    obtain ⟨mA, ns, rel⟩ := exd_at I.hok h2
    obtain ⟨od, hod, _⟩ := lookIn_ns ns
    exact ⟨_, some od, ho, rfl, rfl, hod⟩
/-- isinstance(error, class) -/
def rIsV (K : PySem.W.Frag) : List V → Hp → VK → Prop := fun xs H Q => ∃ (a D : Addr) (fs : List (Str × V)) (c : V) (cv : Value) (b : Bool), xs = [.ref a, c] ∧ (∀ u, RelV c u → u = cv) ∧ ExcC K D ∧ (PySem.W.clsIn K D).isSome = true ∧ ExV H a D fs ∧ PySem.W.kitOne K (.ref D) cv = some b ∧ Q (.bl b) H
theorem call_isV : CallR X (.builtin "isinstance") (rIsV X.K) := by
  intro pins s σ H xs us Q I r h
  obtain ⟨a, D, fs, c, cv, b, rfl, hcv, hD, hcl, hE, e, q⟩ := h
  match us, r with
  | [_, _], .cons rx (.cons rt .nil) =>
    obtain rfl := (show _ = Value.ref a from rx)
    obtain rfl := hcv _ rt
    obtain ⟨oe, od, J⟩ := hE.inst I
    exact PySem.W.kia_one (PySem.W.kitx_exc hcl hD.hg hD.hk hD.hs hD.ha hD.hn hD.ht hD.hm) I.kIn J e (fun z => nomatch z) fun tk => ⟨.bl b, H, I.kept (t' := tk) fun _ _ z => z, rfl, q⟩
/-- error.field -/
def tExF (K : PySem.W.Frag) (f : Str) (te : TE) : TE := fun σ H Q => te σ H fun x H1 => ∃ (a D dd : Addr) (fs : List (Str × V)) (v : V), x = .ref a ∧ ExcC K D ∧ PySem.W.findIn K (.ref D) f = some none ∧ H1 a = some (exo a D (some dd)) ∧ H1 dd = some (exd dd fs) ∧ fs.lookup f = some v ∧ Q v H1
theorem pe_exF {f : Str} {te : TE} (he : PE X e te) (hb : attributeBase e f X.env (eval e X.env) = eval e X.env := by rfl) : PE X (.Attribute e f pos) (tExF X.K f te) where
  run := fun pins s σ H Q I h => by
    refine attr_of hb (thn (he.run pins s σ H _ I h) fun u s1 got => ?_)
    obtain ⟨x, H1, I1, rx, a, D, dd, fs, v, rfl, hD, no, h1, h2, l, q⟩ := got
    obtain rfl : u = Value.ref a := rx
    obtain ⟨t1, ho⟩ := exo_at I1.hok h1
    obtain ⟨mA, ns, rel⟩ := exd_at I1.hok h2
    obtain ⟨od, hod, looks⟩ := lookIn_ns ns
    have J : PySem.W.InstAt s1.heap a _ D (some od) := ⟨ho, rfl, rfl, hod⟩
    obtain ⟨w', hw, rw'⟩ := RelO.some_of (v := v) (o := mA f) (by rw [← l]; exact rel f)
    exact HandSPX.exc_get I1.kIn J hD.hg hD.hk hD.hs (PySem.W.findObj_own hD.hd no rfl (by rw [looks, hw])) (handed_of rw') ⟨v, H1, I1.tok _, rw', q⟩
end
end KO
set_option Elab.async false
set_option linter.all false
set_option maxRecDepth 100000
set_option maxHeartbeats 4000000
namespace KO
open PySem PySem.Spec PyProof.Rows L2 Evl LamX
/-! ### a lambda held as a value, called where it was made -/
/-- at f: what lambda: body made, its code at cd -/
def LamO (f : Addr) (q : Str) (params : Arguments) (body : Expr) (scope : Scope) (cl : List (Str × Addr)) (cd : Addr) : HO := .ext fun h => ∃ pm ctv : Value, h.get? f = some (PySem.W.kla_obj "<lambda>" q params body scope cl pm cd ctv)
/-- f, called in X, is read as t -/
def Acts (X : Cx) (k : Nat) (f : Addr) (t : XK → TE) (H : Hp) : Prop := ∃ (params : Arguments) (body : Expr) (scope : Scope) (cd : Addr), LamS X.env.scope scope ∧ (∀ (q : Str) (cl : List (Str × Addr)) (pm cv ctv : Value), bindArgs (PySem.W.kla_fn "<lambda>" q params body scope cl pm cv ctv) ⟨[], []⟩ = pure []) ∧
  H f = some (LamO f (X.env.qual ++ "<lambda>") params body scope (cloFrom X.env.cells scope.names []) cd) ∧ H cd = some (CodeO cd (X.env.qual ++ "<lambda>")) ∧
  ∀ (A : Around) (outer : List Env) (s : Shared) (H : Hp) (E : XK) (f cd : Addr), Room k (A.deeper (lamEnv X scope s.heap.objs.size f cd)) → PE (lamCx X A outer s H E scope f cd) body (t E)
theorem Acts.mono {X : Cx} {k : Nat} {f : Addr} {t : XK → TE} {H H' : Hp} (a : Acts X k f t H) (e : ExtN H H') : Acts X k f t H' := by
  obtain ⟨ps, b, sc, cd, h1, h2, h3, h4, h5⟩ := a
  exact ⟨ps, b, sc, cd, h1, h2, e _ _ h3 (fun ps z => by unfold LamO at z; cases z), e _ _ h4 (fun ps z => by unfold CodeO at z; cases z), h5⟩
section
variable {X : Cx} {pins : List (Addr × Obj)} {σ : L2.St} {H : Hp} {s : Shared} {k : Nat} {e : Expr} {te : TE} {E : XK}
theorem call_sub (v sl : Expr) (p : Pos) (pos : Pos) (env : Env) : eval (.Call (.Subscript v sl p) [] [] pos) env = (do callWith pos (← eval (.Subscript v sl p) env) [] (backTo pos (starEach [] env)) (backToKw pos (keywordEach [] env))) := rfl
/-- x[i](), x a list of lambdas that X made -/
theorem pe_actSub {v sl : Expr} {p pos : Pos} (he : PE X (.Subscript v sl p) te) (hx : Passes (L2.CX X.prog X.w) X E) (hr : Room (k + 1) X.A) :
    PE X (.Call (.Subscript v sl p) [] [] pos) (fun σ H Q => te σ H fun x H1 => ∃ (f : Addr) (t : XK → TE), x = .ref f ∧ Acts X k f t H1 ∧ t E σ H1 Q) := by
  refine ⟨fun pins s σ H Q I h => ?_⟩
  rw [call_sub]
  refine wpAny_bind (thn (he.run pins s σ H _ I h) fun u s1 got => ?_)
  obtain ⟨x, H1, I1, r1, f, t, rfl, acts, told⟩ := got
  obtain rfl : u = Value.ref f := r1
  obtain ⟨params, body, scope, cd, L, free, hf, hc, means⟩ := acts
  obtain ⟨pm, ctv, at_⟩ := (show ObjOk X.prog X.w H1 s1.heap f (LamO f (X.env.qual ++ "<lambda>") params body scope (cloFrom X.env.cells scope.names []) cd) from I1.hok f _ hf).1
  refine PySem.W.callWith_F0 ⟨_, _, _, _, at_⟩ ?_
  obtain ⟨oc, vs, tk, hoc, hdc, hvc⟩ := (show ObjOk X.prog X.w H1 s1.heap cd (CodeO cd (X.env.qual ++ "<lambda>")) from I1.hok cd _ hc).1
  have ran : codeAny (model X.prog X.w) X.A (.call (.ref f) ⟨[], []⟩) (CR (L2.CX X.prog X.w) X.stack X.prog X.w H1 s1 Q E) s1 := by
    refine PySem.W.kla_callFunE hr.depth at_ rfl L.co L.gen rfl ⟨cd, oc, vs, tk, rfl, hoc, hdc, hvc⟩ ?_
    rw [free]
    refine wpAny_pure (wpAny_newFunctionEnv (fun y hy => (L.own y hy).2) (fun y hy => absurd hy (by simp)) (fun h₁ hns hsb => ⟨I1.nolimit.fresh _ hsb, ?_⟩) L.kind)
    show codeAny _ _ (.expr body (lamEnv X scope s1.heap.objs.size f cd)) _ _
    have old : ∀ b o, s1.heap.get? b = some o → h₁.get? b = some o := fun b o e => hsb.extBut b o (Nat.ne_of_lt (Heap.lt_size e)) (Heap.get?_push_of_some _ e)
    have J : Inv (lamCx X X.A X.stack s1 H1 E scope f cd) [] σ H1 { s1 with heap := h₁, toks := s1.toks + ([] : List (Str × Value)).length } :=
      lam_start2 I1 L I1.env0 hr.hd (Un.kept fun _ _ e => e) hns old
    refine PySem.W.kla_codeExpr (wpAny_mono ((means _ _ s1 H1 E _ _ (hr.deeper _)).run [] _ _ H1 Q J told) (fun v s' back => ?_) fun e s' back => back)
    obtain ⟨w', H', J', rv, q⟩ := back
    exact ⟨w', H', J'.os, J'.bare, J'.base, J'.hok, rv, q⟩
  refine wpAny_call (codeAny_mono ran fun r s' back => ?_)
  cases r with
  | error e => exact hx pins σ _ _ e s' I1 back
  | ok fl =>
    cases fl with
    | ret u => exact I1.after back
    | next => exact False.elim back
    | brk => exact False.elim back
    | cont => exact False.elim back
theorem obj_new {a : Addr} {o : HO} {h' : Heap} {tk : Nat} (I : Inv X pins σ H s) (old : ∀ b u, s.heap.get? b = some u → h'.get? b = some u) (na : s.heap.objs.size ≤ a) (ok : ObjOk X.prog X.w (upd H a o) h' a o) : Inv X pins σ (upd H a o) { s with heap := h', toks := tk } :=
  I.laidN old (by
    cases z : s.heap.get? a with
    | none => rfl
    | some u => exact absurd (Heap.lt_size z) (Nat.not_lt.mpr na)) (I.hok.fresh na) ok
theorem lamO_ok {P : Program} {w : World} {H : Hp} {h : Heap} {f cd : Addr} {q : Str} {params : Arguments} {body : Expr} {scope : Scope} {cl : List (Str × Addr)} {pm ctv : Value} (e : h.get? f = some (PySem.W.kla_obj "<lambda>" q params body scope cl pm cd ctv)) : ObjOk P w H h f (LamO f q params body scope cl cd) :=
  ⟨⟨pm, ctv, e⟩, ⟨_, e⟩, fun _ _ ⟨a, b, z⟩ st => ⟨a, b, st _ z⟩⟩
/-- lambda: body, as a value -/
theorem lam_made {T : List (Addr × Str)} {c P : Addr} {params : Arguments} {body : Expr} {scope : Scope} {pos : Pos} {Er : Value → Shared → Prop} {Q : Value → Shared → Prop} (I : Inv X pins σ H s) (TB : TabB X.base X.mg c P) (code : X.env.code = .ref c)
    (mem : (P, X.env.qual ++ "<lambda>") ∈ T) (same : ∀ p ∈ T, p.1 = P → p.2 = X.env.qual ++ "<lambda>") (told : Tabs T H) (dfl : defaultsOf params X.env = ([], [])) (fr : ∀ y ∈ scope.names, y.2 = .free → ∃ c, X.env.cells.lookup y.1 = some c)
    (h : ∀ (f cd : Addr) (H1 : Hp) (s' : Shared), Inv X pins σ H1 s' → ExtN H H1 → Tabs T H1 → H f = none →
      H1 f = some (LamO f (X.env.qual ++ "<lambda>") params body scope (cloFrom X.env.cells scope.names []) cd) → H1 cd = some (CodeO cd (X.env.qual ++ "<lambda>")) → Q (.ref f) s') :
    wpAny (model X.prog X.w) X.A (eval (.Lambda params body scope pos) X.env) Q Er s := by
  obtain ⟨ps, isP, trip, all⟩ := told _ mem
  refine PySem.W.kla_eval dfl ?_
  have bP : s.heap.BuiltinsAt X.mg P := TB.bm.keeps I.bk
  have atP : s.heap.get? P = some { cls := .none, data := .fields ps } := I.hok P _ isP
  cases hc : codeAmong pos ps.toList with
  | none =>
    refine PySem.W.kla_makeFunction (mg := X.mg) (c := c) (P := P) (ps := ps) (closure_ok fr) I.ok.glob (I.mod.glob.keeps I.bk) code (TB.code.keeps I.bk) atP trip hc TB.gP bP fun cd ctv h' tk hx up lt rc htb => ?_
    obtain ⟨c2, oc, vs, t, e2, hoc, hd, hv⟩ := rc
    cases e2
    have nC : H cd = none := I.hok.fresh up
    have sz : s.heap.objs.size ≤ h'.objs.size := Nat.le_trans up (Nat.le_of_lt lt)
    have nF : H h'.objs.size = none := I.hok.fresh sz
    have I1 := inv_table (t' := tk) (more := #[rawInt pos.line, rawInt pos.col, .ref cd]) (h' := h') I isP hx htb up ⟨oc, vs, t, hoc, hd, hv⟩
    have ext : ExtN H (upd (upd H P (.tbl (ps ++ #[rawInt pos.line, rawInt pos.col, .ref cd]))) cd (CodeO cd (X.env.qual ++ "<lambda>"))) := fun b o e n => by
      rw [upd_ne (ne_of_none e nC), upd_ne (fun z => n ps (Option.some.inj (e.symm.trans (by rw [z]; exact isP))))]
      exact e
    have n1 : h'.objs.size ≠ cd := Nat.ne_of_gt lt
    have n2 : h'.objs.size ≠ P := Nat.ne_of_gt (Nat.lt_of_lt_of_le (Heap.lt_size atP) sz)
    have nF1 : upd (upd H P (.tbl (ps ++ #[rawInt pos.line, rawInt pos.col, .ref cd]))) cd (CodeO cd (X.env.qual ++ "<lambda>")) h'.objs.size = none := by
      rw [upd_ne n1, upd_ne n2]
      exact nF
    have I2 := obj_new (a := h'.objs.size) (o := LamO h'.objs.size (X.env.qual ++ "<lambda>") params body scope (cloFrom X.env.cells scope.names []) cd) (tk := tk)
      (h' := h'.push (PySem.W.kla_obj "<lambda>" (X.env.qual ++ "<lambda>") params body scope (cloFrom X.env.cells scope.names []) ((X.mg "__name__").getD .none) cd ctv)) I1 (fun b o e => Heap.get?_push_of_some _ e) (Nat.le_refl _) (lamO_ok (Heap.get?_push_size _ rfl))
    have lead : (ps ++ #[rawInt pos.line, rawInt pos.col, .ref cd]).toList = ps.toList ++ [rawInt pos.line, rawInt pos.col, .ref cd] := by simp
    have ext2 := ext.trans (ExtN.of (H := upd (upd H P (.tbl (ps ++ #[rawInt pos.line, rawInt pos.col, .ref cd]))) cd (CodeO cd (X.env.qual ++ "<lambda>"))) (H' := upd (upd (upd H P (.tbl (ps ++ #[rawInt pos.line, rawInt pos.col, .ref cd]))) cd (CodeO cd (X.env.qual ++ "<lambda>"))) h'.objs.size (LamO h'.objs.size (X.env.qual ++ "<lambda>") params body scope (cloFrom X.env.cells scope.names []) cd))
      fun b o e => by rw [upd_ne (ne_of_none e nF1)]; exact e)
    have isC : upd (upd (upd H P (.tbl (ps ++ #[rawInt pos.line, rawInt pos.col, .ref cd]))) cd (CodeO cd (X.env.qual ++ "<lambda>"))) h'.objs.size (LamO h'.objs.size (X.env.qual ++ "<lambda>") params body scope (cloFrom X.env.cells scope.names []) cd) cd = some (CodeO cd (X.env.qual ++ "<lambda>")) := by
      rw [upd_ne (Ne.symm n1), upd_same]
    refine h _ cd _ _ I2 ext2 (fun p hp => ?_) nF upd_same isC
    by_cases hb : p.1 = P
    · rw [same p hp hb, hb]
      refine ⟨_, by rw [upd_ne (Ne.symm n2), upd_ne (ne_of_none isP nC), upd_same], by rw [lead]; exact PySem.TriplesOk_snoc _ _ _ _ trip, fun p' cv hcv => ?_⟩
      rw [lead] at hcv
      rcases among_app _ trip hcv with z | z
      · obtain ⟨c0, e1, e2⟩ := all p' cv z
        exact ⟨c0, e1, ext2 _ _ e2 codeO_ne⟩
      · exact ⟨cd, z, isC⟩
    · obtain ⟨ps', a1, a2, a3⟩ := told p hp
      refine ⟨ps', ?_, a2, fun p' cv hcv => ?_⟩
      · have ne : p.1 ≠ h'.objs.size := ne_of_none a1 nF
        rw [upd_ne ne, upd_ne (ne_of_none a1 nC), upd_ne hb]
        exact a1
      · obtain ⟨c0, e1, e2⟩ := a3 p' cv hcv
        exact ⟨c0, e1, ext2 _ _ e2 codeO_ne⟩
  | some cv =>
    obtain ⟨cd, rfl, isC⟩ := all pos cv hc
    refine PySem.W.kla_makeFunctionHit (mg := X.mg) (c := c) (P := P) (ps := ps) (closure_ok fr) I.ok.glob (I.mod.glob.keeps I.bk) code (TB.code.keeps I.bk) atP trip hc bP fun ctv h' tk hx sz => ?_
    have nF : H h'.objs.size = none := I.hok.fresh sz
    have I1 : Inv X pins σ H { s with heap := h', toks := tk } := I.kept hx
    have I2 := obj_new (a := h'.objs.size) (o := LamO h'.objs.size (X.env.qual ++ "<lambda>") params body scope (cloFrom X.env.cells scope.names []) cd) (tk := tk)
      (h' := h'.push (PySem.W.kla_obj "<lambda>" (X.env.qual ++ "<lambda>") params body scope (cloFrom X.env.cells scope.names []) ((X.mg "__name__").getD .none) cd ctv)) I1 (fun b o e => Heap.get?_push_of_some _ e) (Nat.le_refl _) (lamO_ok (Heap.get?_push_size _ rfl))
    have ext : ∀ b o, H b = some o → upd H h'.objs.size (LamO h'.objs.size (X.env.qual ++ "<lambda>") params body scope (cloFrom X.env.cells scope.names []) cd) b = some o := fun b o e => by
      rw [upd_ne (ne_of_none e nF)]
      exact e
    exact h _ cd _ _ I2 (ExtN.of ext) (told.ext ext) nF upd_same (ext _ _ isC)
/-- the reading of a lambda as a value -/
def tLamV (X : Cx) (T : List (Addr × Str)) (k : Nat) (t : XK → TE) : TE := fun σ H Q => Tabs T H ∧ ∀ f H1, ExtN H H1 → Tabs T H1 → H f = none → Acts X k f t H1 → Q (.ref f) H1
theorem pe_lamV {T : List (Addr × Str)} {c P : Addr} {params : Arguments} {body : Expr} {scope : Scope} {t : XK → TE} {pos : Pos} (TB : TabB X.base X.mg c P) (code : X.env.code = .ref c)
    (mem : (P, X.env.qual ++ "<lambda>") ∈ T) (same : ∀ p ∈ T, p.1 = P → p.2 = X.env.qual ++ "<lambda>") (L : LamS X.env.scope scope) (dfl : defaultsOf params X.env = ([], []))
    (free : ∀ (q : Str) (cl : List (Str × Addr)) (pm cv ctv : Value), bindArgs (PySem.W.kla_fn "<lambda>" q params body scope cl pm cv ctv) ⟨[], []⟩ = pure [])
    (means : ∀ (A : Around) (outer : List Env) (s : Shared) (H : Hp) (E : XK) (f cd : Addr), Room k (A.deeper (lamEnv X scope s.heap.objs.size f cd)) → PE (lamCx X A outer s H E scope f cd) body (t E)) : PE X (.Lambda params body scope pos) (tLamV X T k t) := by
  refine ⟨fun pins s σ H Q I h => ?_⟩
  obtain ⟨told, q⟩ := h
  exact lam_made I TB code mem same told dfl (L.has I.ok) fun f cd H1 s' I1 ext T1 nf h1 h2 => ⟨.ref f, H1, I1, rfl, q f H1 ext T1 nf ⟨params, body, scope, cd, L, free, h1, h2, means⟩⟩
end
end KO
set_option Elab.async false
set_option linter.all false
set_option maxRecDepth 100000
set_option maxHeartbeats 4000000
namespace KO
open PySem PySem.Spec PyProof.Rows L2 Evl
/-! ### lists that are not the interpreter's own; what is shown of lists, tuples and empty dicts -/
section
variable {X : Cx} {pins : List (Addr × Obj)} {σ : L2.St} {H : Hp} {s : Shared} {es : List Expr} {t : TA} {pos : Pos}
theorem size_pos (I : Inv X pins σ H s) : 1 < s.heap.objs.size := by
  obtain ⟨o, _, _, g, _⟩ := I.mod.glob.keeps I.bk
  exact Nat.lt_of_lt_of_le (by decide : 1 < mainGlobals + 1) (Heap.lt_size g)
def tLstN (t : TA) : TE := fun σ H Q => t σ H fun xs H1 => xs.length ≤ sizeLine ∧ ∀ p, H1 p = none → 1 < p → Q (.ref p) (upd H1 p (.lst xs))
theorem pe_lstN (h : PA X es t) : PE X (.List es pos) (tLstN t) := by
  refine ⟨fun pins s σ H Q I want => ?_⟩
  refine wpAny_List_spliced (thn (h.run pos pins s σ H _ I want) fun us s1 ⟨xs, H1, J, r, z, q⟩ => ⟨by rw [← r.length]; exact z, ?_⟩)
  have fresh : H1 s1.heap.objs.size = none := J.hok.fresh (Nat.le_refl _)
  have one := size_pos J
  exact ⟨.ref s1.heap.objs.size, upd H1 s1.heap.objs.size (.lst xs), J.laid (t' := s1.toks) (fun _ _ e => Heap.get?_push_of_some _ e) (Nat.le_refl _) ⟨z, us, 0, r, Heap.get?_push_size _ rfl⟩, rfl, q _ fresh one⟩
def rSlN (K : PySem.W.Frag) : V → Option Int → Option Int → Hp → VK → Prop := fun x lo hi H Q => ∃ a xs, x = .ref a ∧ SqL K H a xs ∧ ∀ p, H p = none → 1 < p → Q (.ref p) (upd H p (.lst (cutV xs lo hi)))
theorem sl_listN : SlR X (rSlN X.K) := by
  intro pins s σ H x v vl vu lo hi sl Q I rx hs pl pu want
  obtain ⟨a, xs, rfl, hx, q⟩ := want
  cases rx
  obtain ⟨its, r, plain, few⟩ := I.list hx
  have len := r.length
  have one := size_pos I
  refine ⟨"list", _, slot_list_getitem.lookup, plain.isList.typeIs, ?_⟩
  refine wpAny_getItem_list_slice plain.isList hs pl pu .none (by simp) ?_ (by rw [List.size_toArray] <;> omega)
  rw [slicePick_cut, ← len]
  refine ⟨.ref s.heap.objs.size, _, I.laid (t' := s.toks) (o := .lst (cutV xs lo hi)) (fun _ _ g => Heap.get?_push_of_some _ g) (Nat.le_refl _) ?_, rfl, q _ (I.hok.fresh (Nat.le_refl _)) one⟩
  exact ⟨Nat.le_trans (cutV_length xs lo hi) few, _, 0, (r.drop (HT.sIx xs.length 0 lo)).take (HT.sIx xs.length xs.length hi - HT.sIx xs.length 0 lo), Heap.get?_push_size _ rfl⟩
end
mutual
/-- what can be shown: scalars, lists and tuples of them, empty dicts -/
inductive Dz (H : Hp) : V → PyData → Prop
  | non : Dz H .non .none
  | bl (b : Bool) : Dz H (.bl b) (.bool b)
  | int (i : Int) : Dz H (.int i) (.int i)
  | str (z : Str) : Dz H (.str z) (.str z)
  | lst {a : Addr} {xs : List V} {ds : List PyData} (new : 1 < a) (at_ : H a = some (.lst xs)) (all : DzAll H xs ds) : Dz H (.ref a) (.list ds)
  | tup {a : Addr} {xs : List V} {ds : List PyData} (at_ : H a = some (.tup xs)) (all : DzAll H xs ds) : Dz H (.ref a) (.tuple ds)
  | dict {a : Addr} (at_ : H a = some (.dK [])) : Dz H (.ref a) (.dict [])
inductive DzAll (H : Hp) : List V → List PyData → Prop
  | nil : DzAll H [] []
  | cons {v : V} {vs : List V} {d : PyData} {ds : List PyData} (one : Dz H v d) (rest : DzAll H vs ds) : DzAll H (v :: vs) (d :: ds)
end
section
variable {X : Cx} {pins : List (Addr × Obj)} {σ : L2.St} {H : Hp} {s : Shared}
mutual
theorem Dz.reads (I : Inv X pins σ H s) : ∀ (d : PyData) (v : V) (u : Value), Dz H v d → RelV v u → ∃ as, Reads s.heap u d as ∧ sysModules ∉ as
  | .none, _, _, h, r => by
    cases h
    cases r
    exact ⟨_, Reads.none, List.not_mem_nil⟩
  | .bool b, _, _, h, r => by
    cases h
    cases r
    exact ⟨_, Reads.bool b, List.not_mem_nil⟩
  | .int i, _, _, h, r => by
    cases h
    obtain ⟨t, rfl⟩ := r
    exact ⟨_, Reads.int i t, List.not_mem_nil⟩
  | .str x, _, _, h, r => by
    cases h
    obtain ⟨t, rfl⟩ := r
    exact ⟨_, Reads.str x t, List.not_mem_nil⟩
  | .list ds, _, _, h, r => by
    cases h with
    | lst new at_ all =>
      cases r
      obtain ⟨its, rv, ⟨o, n, ho, hc, _, hd⟩, _⟩ := I.list (.inl (.inl at_))
      obtain ⟨as, rd, ne⟩ := DzAll.reads I ds _ its all rv
      refine ⟨_, Reads.list ho hc hd rd, fun m => ?_⟩
      rcases List.mem_cons.mp m with z | m
      · rw [← z] at new
        exact absurd new (by decide)
      · exact ne m
  | .tuple ds, _, _, h, r => by
    cases h with
    | tup at_ all =>
      cases r
      obtain ⟨its, rv, ⟨o, ho, hc, n, hd⟩, _⟩ := I.tuple (.inl (.inl at_))
      obtain ⟨as, rd, ne⟩ := DzAll.reads I ds _ its all rv
      exact ⟨_, Reads.tuple ho hc hd rd, ne⟩
  | .dict _, _, _, h, r => by
    cases h with
    | dict at_ =>
      cases r
      obtain ⟨_, off, vs, kv, o, es, ep, ho, ex, hd, _, prs, _⟩ := dk_of I.hok at_
      have v0 : vs = [] := by
        cases kv
        rfl
      subst v0
      have e0 : es.toList = [] := by
        cases h : es.toList with
        | nil => rfl
        | cons x l =>
          rw [h] at prs
          cases prs
      refine ⟨_, Reads.dict (kvs := []) ho ex.1 hd (by rw [e0]; exact ReadsAll.nil) (by rw [e0]; exact ReadsAll.nil), fun m => ?_⟩
      have m : sysModules ∈ [_] := m
      rw [← List.mem_singleton.mp m] at off
      exact absurd off (by decide)
theorem DzAll.reads (I : Inv X pins σ H s) : ∀ (ds : List PyData) (vs : List V) (us : List Value), DzAll H vs ds → Vals vs us → ∃ as, ReadsAll s.heap us ds as ∧ sysModules ∉ as
  | [], _, _, h, r => by
    cases h
    cases r
    exact ⟨_, ReadsAll.nil, List.not_mem_nil⟩
  | d :: ds, _, _, h, r => by
    cases h with
    | cons h1 h2 =>
      cases r with
      | cons r1 r2 =>
        obtain ⟨as, q1, n1⟩ := Dz.reads I d _ _ h1 r1
        obtain ⟨bs, q2, n2⟩ := DzAll.reads I ds _ _ h2 r2
        exact ⟨_, ReadsAll.cons q1 q2, fun m => (List.mem_append.mp m).elim n1 n2⟩
end
/-- repr of such an object -/
def rReprZ : List V → Hp → VK → Prop := fun xs H Q => ∃ (p : Addr) (d : PyData), xs = [.ref p] ∧ Dz H (.ref p) d ∧ d.showable = true ∧ d.depth ≤ 60 ∧ d.shown.length ≤ sizeLine ∧ Q (.str d.shown) H
theorem call_reprZ (gd : X.A.guards = some []) (hu : X.A.units + 64 < cLine) : CallR X (.builtin "repr") rReprZ := by
  intro pins s σ H xs us Q I r start
  obtain ⟨p, d, rfl, hd, h1, h3, h4, q⟩ := start
  obtain ⟨u, rfl, ru⟩ := r.one
  obtain ⟨as, reads, off⟩ := Dz.reads I d (.ref p) u hd ru
  obtain rfl : u = Value.ref p := ru
  exact repr_of_reads' reads h1 (fun _ => off) gd (by omega) (fun _ _ e => e) (fun g t tk rest => ⟨.str d.shown, H, I.kept (t' := tk) rest, ⟨t, rfl⟩, q⟩) h4
end
/-- lists, tuples and empty dicts stay -/
def KeepD (H H' : Hp) : Prop := ∀ b o, H b = some o → ((∃ xs, o = .lst xs) ∨ (∃ xs, o = .tup xs) ∨ o = .dK []) → H' b = some o
mutual
theorem Dz.keep {H H' : Hp} (k : KeepD H H') : ∀ (d : PyData) (v : V), Dz H v d → Dz H' v d
  | .none, _, h => by
    cases h
    exact .non
  | .bool b, _, h => by
    cases h
    exact .bl b
  | .int i, _, h => by
    cases h
    exact .int i
  | .str z, _, h => by
    cases h
    exact .str z
  | .list ds, _, h => by
    cases h with
    | lst new at_ all => exact .lst new (k _ _ at_ (.inl ⟨_, rfl⟩)) (DzAll.keep k ds _ all)
  | .tuple ds, _, h => by
    cases h with
    | tup at_ all => exact .tup (k _ _ at_ (.inr (.inl ⟨_, rfl⟩))) (DzAll.keep k ds _ all)
  | .dict _, _, h => by
    cases h with
    | dict at_ => exact .dict (k _ _ at_ (.inr (.inr rfl)))
theorem DzAll.keep {H H' : Hp} (k : KeepD H H') : ∀ (ds : List PyData) (vs : List V), DzAll H vs ds → DzAll H' vs ds
  | [], _, h => by
    cases h
    exact .nil
  | d :: ds, _, h => by
    cases h with
    | cons h1 h2 => exact .cons (Dz.keep k d _ h1) (DzAll.keep k ds _ h2)
end
end KO
set_option Elab.async false
set_option linter.all false
set_option maxRecDepth 100000
set_option maxHeartbeats 4000000
namespace KO
open PySem L2
def top (i : Nat) : Stmt := PySem.Challenge.pw_modesdown_k05_errors.main.body.getD i (.Pass ⟨0, 0, 0, 0⟩)
abbrev s_BadModeD_initD : Stmt := inClass (top 4) 0
abbrev s_BadClauseD_initD : Stmt := inClass (top 5) 0
abbrev s_BadNameD_initD : Stmt := inClass (top 6) 0
abbrev s_BadPathD_initD : Stmt := inClass (top 7) 0
abbrev s_BadUserD_initD : Stmt := inClass (top 8) 0
abbrev s_BadCommandD_initD : Stmt := inClass (top 9) 0
abbrev s_BadKindD_initD : Stmt := inClass (top 10) 0
abbrev s_BadStandD_initD : Stmt := inClass (top 11) 0
abbrev s_BadBeatD_initD : Stmt := inClass (top 12) 0
abbrev s_BadTextD_initD : Stmt := inClass (top 13) 0
abbrev s_NoEntryD_initD : Stmt := inClass (top 14) 0
abbrev s_NoCommandD_initD : Stmt := inClass (top 15) 0
abbrev s_NoStandD_initD : Stmt := inClass (top 16) 0
abbrev s_TooManyD_initD : Stmt := inClass (top 17) 0
abbrev s_NoKindD_initD : Stmt := inClass (top 18) 0
abbrev s__law_bag : Stmt := top 20
abbrev s__law_draw : Stmt := top 21
abbrev s__law_field : Stmt := top 22
abbrev s__law_made : Stmt := top 23
abbrev s__law_named : Stmt := top 24
abbrev s__law_fields : Stmt := top 25
abbrev s__law_classes : Stmt := top 26
abbrev s_law : Stmt := top 27
abbrev n_BadModeD_initD : List Str := ["self", "part"]
theorem sc_BadModeD_initD : FnScope n_BadModeD_initD ["self", "part"] (defScope s_BadModeD_initD) := ⟨rfl, rfl, rfl, by decide +kernel, rfl, by decide +kernel, by decide +kernel⟩
abbrev n_BadClauseD_initD : List Str := ["self", "at"]
theorem sc_BadClauseD_initD : FnScope n_BadClauseD_initD ["self", "at"] (defScope s_BadClauseD_initD) := ⟨rfl, rfl, rfl, by decide +kernel, rfl, by decide +kernel, by decide +kernel⟩
abbrev n_BadNameD_initD : List Str := ["self", "name"]
theorem sc_BadNameD_initD : FnScope n_BadNameD_initD ["self", "name"] (defScope s_BadNameD_initD) := ⟨rfl, rfl, rfl, by decide +kernel, rfl, by decide +kernel, by decide +kernel⟩
abbrev n_BadPathD_initD : List Str := ["self", "path"]
theorem sc_BadPathD_initD : FnScope n_BadPathD_initD ["self", "path"] (defScope s_BadPathD_initD) := ⟨rfl, rfl, rfl, by decide +kernel, rfl, by decide +kernel, by decide +kernel⟩
abbrev n_BadUserD_initD : List Str := ["self", "part"]
theorem sc_BadUserD_initD : FnScope n_BadUserD_initD ["self", "part"] (defScope s_BadUserD_initD) := ⟨rfl, rfl, rfl, by decide +kernel, rfl, by decide +kernel, by decide +kernel⟩
abbrev n_BadCommandD_initD : List Str := ["self", "part"]
theorem sc_BadCommandD_initD : FnScope n_BadCommandD_initD ["self", "part"] (defScope s_BadCommandD_initD) := ⟨rfl, rfl, rfl, by decide +kernel, rfl, by decide +kernel, by decide +kernel⟩
abbrev n_BadKindD_initD : List Str := ["self", "at"]
theorem sc_BadKindD_initD : FnScope n_BadKindD_initD ["self", "at"] (defScope s_BadKindD_initD) := ⟨rfl, rfl, rfl, by decide +kernel, rfl, by decide +kernel, by decide +kernel⟩
abbrev n_BadStandD_initD : List Str := ["self", "index"]
theorem sc_BadStandD_initD : FnScope n_BadStandD_initD ["self", "index"] (defScope s_BadStandD_initD) := ⟨rfl, rfl, rfl, by decide +kernel, rfl, by decide +kernel, by decide +kernel⟩
abbrev n_BadBeatD_initD : List Str := ["self", "part"]
theorem sc_BadBeatD_initD : FnScope n_BadBeatD_initD ["self", "part"] (defScope s_BadBeatD_initD) := ⟨rfl, rfl, rfl, by decide +kernel, rfl, by decide +kernel, by decide +kernel⟩
abbrev n_BadTextD_initD : List Str := ["self", "line", "word"]
theorem sc_BadTextD_initD : FnScope n_BadTextD_initD ["self", "line", "word"] (defScope s_BadTextD_initD) := ⟨rfl, rfl, rfl, by decide +kernel, rfl, by decide +kernel, by decide +kernel⟩
abbrev n_NoEntryD_initD : List Str := ["self", "path"]
theorem sc_NoEntryD_initD : FnScope n_NoEntryD_initD ["self", "path"] (defScope s_NoEntryD_initD) := ⟨rfl, rfl, rfl, by decide +kernel, rfl, by decide +kernel, by decide +kernel⟩
abbrev n_NoCommandD_initD : List Str := ["self", "index"]
theorem sc_NoCommandD_initD : FnScope n_NoCommandD_initD ["self", "index"] (defScope s_NoCommandD_initD) := ⟨rfl, rfl, rfl, by decide +kernel, rfl, by decide +kernel, by decide +kernel⟩
abbrev n_NoStandD_initD : List Str := ["self", "joint"]
theorem sc_NoStandD_initD : FnScope n_NoStandD_initD ["self", "joint"] (defScope s_NoStandD_initD) := ⟨rfl, rfl, rfl, by decide +kernel, rfl, by decide +kernel, by decide +kernel⟩
abbrev n_TooManyD_initD : List Str := ["self", "most"]
theorem sc_TooManyD_initD : FnScope n_TooManyD_initD ["self", "most"] (defScope s_TooManyD_initD) := ⟨rfl, rfl, rfl, by decide +kernel, rfl, by decide +kernel, by decide +kernel⟩
abbrev n_NoKindD_initD : List Str := ["self"]
theorem sc_NoKindD_initD : FnScope n_NoKindD_initD ["self"] (defScope s_NoKindD_initD) := ⟨rfl, rfl, rfl, by decide +kernel, rfl, by decide +kernel, by decide +kernel⟩
abbrev n__law_bag : List Str := ["_law_script", "_law_state", "_law_cell"]
theorem sc__law_bag : FnScope n__law_bag ["_law_script"] (defScope s__law_bag) := ⟨rfl, rfl, rfl, by decide +kernel, rfl, by decide +kernel, by decide +kernel⟩
abbrev n__law_draw : List Str := ["_law_bag_here", "_law_limit", "_law_cell", "_law_mixed", "_law_found"]
theorem sc__law_draw : FnScope n__law_draw ["_law_bag_here", "_law_limit"] (defScope s__law_draw) := ⟨rfl, rfl, rfl, by decide +kernel, rfl, by decide +kernel, by decide +kernel⟩
abbrev n__law_field : List Str := ["_law_bag_here", "_law_some"]
theorem sc__law_field : FnScope n__law_field ["_law_bag_here"] (defScope s__law_field) := ⟨rfl, rfl, rfl, by decide +kernel, rfl, by decide +kernel, by decide +kernel⟩
abbrev n__law_made : List Str := ["_law_which", "_law_one", "_law_other", "_law_made_here"]
theorem sc__law_made : FnScope n__law_made ["_law_which", "_law_one", "_law_other"] (defScope s__law_made) := ⟨rfl, rfl, rfl, by decide +kernel, rfl, by decide +kernel, by decide +kernel⟩
abbrev n__law_named : List Str := ["_law_which", "_law_one", "_law_other", "_law_made_here"]
theorem sc__law_named : FnScope n__law_named ["_law_which", "_law_one", "_law_other"] (defScope s__law_named) := ⟨rfl, rfl, rfl, by decide +kernel, rfl, by decide +kernel, by decide +kernel⟩
abbrev n__law_fields : List Str := ["_law_which", "_law_error"]
theorem sc__law_fields : FnScope n__law_fields ["_law_which", "_law_error"] (defScope s__law_fields) := ⟨rfl, rfl, rfl, by decide +kernel, rfl, by decide +kernel, by decide +kernel⟩
abbrev n__law_classes : List Str := ["_law_error", "_law_found", "_law_bases"]
theorem sc__law_classes : FnScope n__law_classes ["_law_error"] (defScope s__law_classes) := ⟨rfl, rfl, rfl, by decide +kernel, rfl, by decide +kernel, by decide +kernel⟩
abbrev n_law : List Str := ["_law_script", "_law_bag_here", "_law_which", "_law_one", "_law_other", "_law_error", "_law_fields_here", "_law_named_here", "_law_due", "_law_k"]
theorem sc_law : FnScope n_law ["_law_script"] (defScope s_law) := ⟨rfl, rfl, rfl, by decide +kernel, rfl, by decide +kernel, by decide +kernel⟩
end KO
set_option Elab.async false
set_option linter.all false
set_option maxRecDepth 100000
set_option maxHeartbeats 4000000
namespace KO
open PySem PySem.Spec PyProof.Rows L2 Evl
theorem all_nat {n : Nat} {p : Nat → Bool} (h : (List.range n).all p = true) : ∀ i, i < n → p i = true := fun i hi => List.all_eq_true.mp h i (List.mem_range.mpr hi)
/-- the class C is one of these, in this order -/
def MroIs (K : PySem.W.Frag) (C : Addr) (l : List Value) : Prop := ∃ cd, PySem.W.clsIn K C = some cd ∧ cd.mro = l
structure Ads where
  f__law_bag : Addr
  d__law_bag : FuncData
  f__law_draw : Addr
  d__law_draw : FuncData
  f__law_field : Addr
  d__law_field : FuncData
  f__law_made : Addr
  d__law_made : FuncData
  f__law_named : Addr
  d__law_named : FuncData
  f__law_fields : Addr
  d__law_fields : FuncData
  f__law_classes : Addr
  d__law_classes : FuncData
  x_BadMode : Addr
  f_BadModeD_initD : Addr
  d_BadModeD_initD : FuncData
  x_BadClause : Addr
  f_BadClauseD_initD : Addr
  d_BadClauseD_initD : FuncData
  x_BadName : Addr
  f_BadNameD_initD : Addr
  d_BadNameD_initD : FuncData
  x_BadPath : Addr
  f_BadPathD_initD : Addr
  d_BadPathD_initD : FuncData
  x_BadUser : Addr
  f_BadUserD_initD : Addr
  d_BadUserD_initD : FuncData
  x_BadCommand : Addr
  f_BadCommandD_initD : Addr
  d_BadCommandD_initD : FuncData
  x_BadKind : Addr
  f_BadKindD_initD : Addr
  d_BadKindD_initD : FuncData
  x_BadStand : Addr
  f_BadStandD_initD : Addr
  d_BadStandD_initD : FuncData
  x_BadBeat : Addr
  f_BadBeatD_initD : Addr
  d_BadBeatD_initD : FuncData
  x_BadText : Addr
  f_BadTextD_initD : Addr
  d_BadTextD_initD : FuncData
  x_NoEntry : Addr
  f_NoEntryD_initD : Addr
  d_NoEntryD_initD : FuncData
  x_NoCommand : Addr
  f_NoCommandD_initD : Addr
  d_NoCommandD_initD : FuncData
  x_NoStand : Addr
  f_NoStandD_initD : Addr
  d_NoStandD_initD : FuncData
  x_TooMany : Addr
  f_TooManyD_initD : Addr
  d_TooManyD_initD : FuncData
  x_NoKind : Addr
  f_NoKindD_initD : Addr
  d_NoKindD_initD : FuncData
  x_BadInput : Addr
  x_NoWay : Addr
  x_ModesError : Addr
  cM : Addr
  PM : Addr
  cN : Addr
  PN : Addr
abbrev Ads.all (a : Ads) : List Addr := [a.x_BadMode, a.x_BadClause, a.x_BadName, a.x_BadPath, a.x_BadUser, a.x_BadCommand, a.x_BadKind, a.x_BadStand, a.x_BadBeat, a.x_BadText, a.x_NoEntry, a.x_NoCommand, a.x_NoStand, a.x_TooMany, a.x_NoKind, a.x_BadInput, a.x_NoWay, a.x_ModesError]
structure Txt (w : World) (K : PySem.W.Frag) (mg : Str → Option Value) (a : Ads) : Prop where
  b_isinstance : mg "isinstance" = none
  b_int : mg "int" = none
  b_list : mg "list" = none
  b_len : mg "len" = none
  b_abs : mg "abs" = none
  b_range : mg "range" = none
  b_repr : mg "repr" = none
  b_ValueError : mg "ValueError" = none
  mg__law_bag : mg "_law_bag" = some (.ref a.f__law_bag)
  fn__law_bag : Fun K "_law_bag" "_law_bag" s__law_bag a.f__law_bag a.d__law_bag
  mg__law_draw : mg "_law_draw" = some (.ref a.f__law_draw)
  fn__law_draw : Fun K "_law_draw" "_law_draw" s__law_draw a.f__law_draw a.d__law_draw
  mg__law_field : mg "_law_field" = some (.ref a.f__law_field)
  fn__law_field : Fun K "_law_field" "_law_field" s__law_field a.f__law_field a.d__law_field
  mg__law_made : mg "_law_made" = some (.ref a.f__law_made)
  fn__law_made : Fun K "_law_made" "_law_made" s__law_made a.f__law_made a.d__law_made
  mg__law_named : mg "_law_named" = some (.ref a.f__law_named)
  fn__law_named : Fun K "_law_named" "_law_named" s__law_named a.f__law_named a.d__law_named
  mg__law_fields : mg "_law_fields" = some (.ref a.f__law_fields)
  fn__law_fields : Fun K "_law_fields" "_law_fields" s__law_fields a.f__law_fields a.d__law_fields
  mg__law_classes : mg "_law_classes" = some (.ref a.f__law_classes)
  fn__law_classes : Fun K "_law_classes" "_law_classes" s__law_classes a.f__law_classes a.d__law_classes
  at__law_made : ∃ oc od kV doc pm an ct osl, a.d__law_made = PySem.W.fnOf "_law_made" "_law_made" (defArgs s__law_made) (defBody s__law_made) (defScope s__law_made) .none kV doc pm an (.ref a.cM) ct ∧ K.lookup a.f__law_made = some ⟨oc, od, .func a.d__law_made, osl⟩
  co__law_made : PySem.W.codeIn K (.ref a.cM) "_law_made" = true
  at__law_named : ∃ oc od kV doc pm an ct osl, a.d__law_named = PySem.W.fnOf "_law_named" "_law_named" (defArgs s__law_named) (defBody s__law_named) (defScope s__law_named) .none kV doc pm an (.ref a.cN) ct ∧ K.lookup a.f__law_named = some ⟨oc, od, .func a.d__law_named, osl⟩
  co__law_named : PySem.W.codeIn K (.ref a.cN) "_law_named" = true
  ne_P : a.PM ≠ a.PN
  mg_BadMode : mg "BadMode" = some (.ref a.x_BadMode)
  ox_BadMode : OexC K a.x_BadMode
  ec_BadMode : ExcC K a.x_BadMode
  ic_BadMode : PySem.W.findIn K (.ref a.x_BadMode) "__init__" = some (some (.ref a.f_BadModeD_initD))
  it_BadMode : PySem.W.typeIn K (.ref a.f_BadModeD_initD) = some (.type "function")
  fn_BadModeD_initD : Fun K "__init__" "BadMode.__init__" s_BadModeD_initD a.f_BadModeD_initD a.d_BadModeD_initD
  npart_BadMode : PySem.W.findIn K (.ref a.x_BadMode) "part" = some none
  mr_BadMode : MroIs K a.x_BadMode [.ref a.x_BadMode, .ref a.x_BadInput, .ref a.x_ModesError, .type "ValueError", .type "Exception", .type "BaseException", .type "object"]
  mg_BadClause : mg "BadClause" = some (.ref a.x_BadClause)
  ox_BadClause : OexC K a.x_BadClause
  ec_BadClause : ExcC K a.x_BadClause
  ic_BadClause : PySem.W.findIn K (.ref a.x_BadClause) "__init__" = some (some (.ref a.f_BadClauseD_initD))
  it_BadClause : PySem.W.typeIn K (.ref a.f_BadClauseD_initD) = some (.type "function")
  fn_BadClauseD_initD : Fun K "__init__" "BadClause.__init__" s_BadClauseD_initD a.f_BadClauseD_initD a.d_BadClauseD_initD
  nat_BadClause : PySem.W.findIn K (.ref a.x_BadClause) "at" = some none
  mr_BadClause : MroIs K a.x_BadClause [.ref a.x_BadClause, .ref a.x_BadInput, .ref a.x_ModesError, .type "ValueError", .type "Exception", .type "BaseException", .type "object"]
  mg_BadName : mg "BadName" = some (.ref a.x_BadName)
  ox_BadName : OexC K a.x_BadName
  ec_BadName : ExcC K a.x_BadName
  ic_BadName : PySem.W.findIn K (.ref a.x_BadName) "__init__" = some (some (.ref a.f_BadNameD_initD))
  it_BadName : PySem.W.typeIn K (.ref a.f_BadNameD_initD) = some (.type "function")
  fn_BadNameD_initD : Fun K "__init__" "BadName.__init__" s_BadNameD_initD a.f_BadNameD_initD a.d_BadNameD_initD
  nname_BadName : PySem.W.findIn K (.ref a.x_BadName) "name" = some none
  mr_BadName : MroIs K a.x_BadName [.ref a.x_BadName, .ref a.x_BadInput, .ref a.x_ModesError, .type "ValueError", .type "Exception", .type "BaseException", .type "object"]
  mg_BadPath : mg "BadPath" = some (.ref a.x_BadPath)
  ox_BadPath : OexC K a.x_BadPath
  ec_BadPath : ExcC K a.x_BadPath
  ic_BadPath : PySem.W.findIn K (.ref a.x_BadPath) "__init__" = some (some (.ref a.f_BadPathD_initD))
  it_BadPath : PySem.W.typeIn K (.ref a.f_BadPathD_initD) = some (.type "function")
  fn_BadPathD_initD : Fun K "__init__" "BadPath.__init__" s_BadPathD_initD a.f_BadPathD_initD a.d_BadPathD_initD
  npath_BadPath : PySem.W.findIn K (.ref a.x_BadPath) "path" = some none
  mr_BadPath : MroIs K a.x_BadPath [.ref a.x_BadPath, .ref a.x_BadInput, .ref a.x_ModesError, .type "ValueError", .type "Exception", .type "BaseException", .type "object"]
  mg_BadUser : mg "BadUser" = some (.ref a.x_BadUser)
  ox_BadUser : OexC K a.x_BadUser
  ec_BadUser : ExcC K a.x_BadUser
  ic_BadUser : PySem.W.findIn K (.ref a.x_BadUser) "__init__" = some (some (.ref a.f_BadUserD_initD))
  it_BadUser : PySem.W.typeIn K (.ref a.f_BadUserD_initD) = some (.type "function")
  fn_BadUserD_initD : Fun K "__init__" "BadUser.__init__" s_BadUserD_initD a.f_BadUserD_initD a.d_BadUserD_initD
  npart_BadUser : PySem.W.findIn K (.ref a.x_BadUser) "part" = some none
  mr_BadUser : MroIs K a.x_BadUser [.ref a.x_BadUser, .ref a.x_BadInput, .ref a.x_ModesError, .type "ValueError", .type "Exception", .type "BaseException", .type "object"]
  mg_BadCommand : mg "BadCommand" = some (.ref a.x_BadCommand)
  ox_BadCommand : OexC K a.x_BadCommand
  ec_BadCommand : ExcC K a.x_BadCommand
  ic_BadCommand : PySem.W.findIn K (.ref a.x_BadCommand) "__init__" = some (some (.ref a.f_BadCommandD_initD))
  it_BadCommand : PySem.W.typeIn K (.ref a.f_BadCommandD_initD) = some (.type "function")
  fn_BadCommandD_initD : Fun K "__init__" "BadCommand.__init__" s_BadCommandD_initD a.f_BadCommandD_initD a.d_BadCommandD_initD
  npart_BadCommand : PySem.W.findIn K (.ref a.x_BadCommand) "part" = some none
  mr_BadCommand : MroIs K a.x_BadCommand [.ref a.x_BadCommand, .ref a.x_BadInput, .ref a.x_ModesError, .type "ValueError", .type "Exception", .type "BaseException", .type "object"]
  mg_BadKind : mg "BadKind" = some (.ref a.x_BadKind)
  ox_BadKind : OexC K a.x_BadKind
  ec_BadKind : ExcC K a.x_BadKind
  ic_BadKind : PySem.W.findIn K (.ref a.x_BadKind) "__init__" = some (some (.ref a.f_BadKindD_initD))
  it_BadKind : PySem.W.typeIn K (.ref a.f_BadKindD_initD) = some (.type "function")
  fn_BadKindD_initD : Fun K "__init__" "BadKind.__init__" s_BadKindD_initD a.f_BadKindD_initD a.d_BadKindD_initD
  nat_BadKind : PySem.W.findIn K (.ref a.x_BadKind) "at" = some none
  mr_BadKind : MroIs K a.x_BadKind [.ref a.x_BadKind, .ref a.x_BadInput, .ref a.x_ModesError, .type "ValueError", .type "Exception", .type "BaseException", .type "object"]
  mg_BadStand : mg "BadStand" = some (.ref a.x_BadStand)
  ox_BadStand : OexC K a.x_BadStand
  ec_BadStand : ExcC K a.x_BadStand
  ic_BadStand : PySem.W.findIn K (.ref a.x_BadStand) "__init__" = some (some (.ref a.f_BadStandD_initD))
  it_BadStand : PySem.W.typeIn K (.ref a.f_BadStandD_initD) = some (.type "function")
  fn_BadStandD_initD : Fun K "__init__" "BadStand.__init__" s_BadStandD_initD a.f_BadStandD_initD a.d_BadStandD_initD
  nindex_BadStand : PySem.W.findIn K (.ref a.x_BadStand) "index" = some none
  mr_BadStand : MroIs K a.x_BadStand [.ref a.x_BadStand, .ref a.x_BadInput, .ref a.x_ModesError, .type "ValueError", .type "Exception", .type "BaseException", .type "object"]
  mg_BadBeat : mg "BadBeat" = some (.ref a.x_BadBeat)
  ox_BadBeat : OexC K a.x_BadBeat
  ec_BadBeat : ExcC K a.x_BadBeat
  ic_BadBeat : PySem.W.findIn K (.ref a.x_BadBeat) "__init__" = some (some (.ref a.f_BadBeatD_initD))
  it_BadBeat : PySem.W.typeIn K (.ref a.f_BadBeatD_initD) = some (.type "function")
  fn_BadBeatD_initD : Fun K "__init__" "BadBeat.__init__" s_BadBeatD_initD a.f_BadBeatD_initD a.d_BadBeatD_initD
  npart_BadBeat : PySem.W.findIn K (.ref a.x_BadBeat) "part" = some none
  mr_BadBeat : MroIs K a.x_BadBeat [.ref a.x_BadBeat, .ref a.x_BadInput, .ref a.x_ModesError, .type "ValueError", .type "Exception", .type "BaseException", .type "object"]
  mg_BadText : mg "BadText" = some (.ref a.x_BadText)
  ox_BadText : OexC K a.x_BadText
  ec_BadText : ExcC K a.x_BadText
  ic_BadText : PySem.W.findIn K (.ref a.x_BadText) "__init__" = some (some (.ref a.f_BadTextD_initD))
  it_BadText : PySem.W.typeIn K (.ref a.f_BadTextD_initD) = some (.type "function")
  fn_BadTextD_initD : Fun K "__init__" "BadText.__init__" s_BadTextD_initD a.f_BadTextD_initD a.d_BadTextD_initD
  nline_BadText : PySem.W.findIn K (.ref a.x_BadText) "line" = some none
  nword_BadText : PySem.W.findIn K (.ref a.x_BadText) "word" = some none
  mr_BadText : MroIs K a.x_BadText [.ref a.x_BadText, .ref a.x_BadInput, .ref a.x_ModesError, .type "ValueError", .type "Exception", .type "BaseException", .type "object"]
  mg_NoEntry : mg "NoEntry" = some (.ref a.x_NoEntry)
  ox_NoEntry : OexC K a.x_NoEntry
  ec_NoEntry : ExcC K a.x_NoEntry
  ic_NoEntry : PySem.W.findIn K (.ref a.x_NoEntry) "__init__" = some (some (.ref a.f_NoEntryD_initD))
  it_NoEntry : PySem.W.typeIn K (.ref a.f_NoEntryD_initD) = some (.type "function")
  fn_NoEntryD_initD : Fun K "__init__" "NoEntry.__init__" s_NoEntryD_initD a.f_NoEntryD_initD a.d_NoEntryD_initD
  npath_NoEntry : PySem.W.findIn K (.ref a.x_NoEntry) "path" = some none
  mr_NoEntry : MroIs K a.x_NoEntry [.ref a.x_NoEntry, .ref a.x_NoWay, .ref a.x_ModesError, .type "ValueError", .type "Exception", .type "BaseException", .type "object"]
  mg_NoCommand : mg "NoCommand" = some (.ref a.x_NoCommand)
  ox_NoCommand : OexC K a.x_NoCommand
  ec_NoCommand : ExcC K a.x_NoCommand
  ic_NoCommand : PySem.W.findIn K (.ref a.x_NoCommand) "__init__" = some (some (.ref a.f_NoCommandD_initD))
  it_NoCommand : PySem.W.typeIn K (.ref a.f_NoCommandD_initD) = some (.type "function")
  fn_NoCommandD_initD : Fun K "__init__" "NoCommand.__init__" s_NoCommandD_initD a.f_NoCommandD_initD a.d_NoCommandD_initD
  nindex_NoCommand : PySem.W.findIn K (.ref a.x_NoCommand) "index" = some none
  mr_NoCommand : MroIs K a.x_NoCommand [.ref a.x_NoCommand, .ref a.x_NoWay, .ref a.x_ModesError, .type "ValueError", .type "Exception", .type "BaseException", .type "object"]
  mg_NoStand : mg "NoStand" = some (.ref a.x_NoStand)
  ox_NoStand : OexC K a.x_NoStand
  ec_NoStand : ExcC K a.x_NoStand
  ic_NoStand : PySem.W.findIn K (.ref a.x_NoStand) "__init__" = some (some (.ref a.f_NoStandD_initD))
  it_NoStand : PySem.W.typeIn K (.ref a.f_NoStandD_initD) = some (.type "function")
  fn_NoStandD_initD : Fun K "__init__" "NoStand.__init__" s_NoStandD_initD a.f_NoStandD_initD a.d_NoStandD_initD
  njoint_NoStand : PySem.W.findIn K (.ref a.x_NoStand) "joint" = some none
  mr_NoStand : MroIs K a.x_NoStand [.ref a.x_NoStand, .ref a.x_NoWay, .ref a.x_ModesError, .type "ValueError", .type "Exception", .type "BaseException", .type "object"]
  mg_TooMany : mg "TooMany" = some (.ref a.x_TooMany)
  ox_TooMany : OexC K a.x_TooMany
  ec_TooMany : ExcC K a.x_TooMany
  ic_TooMany : PySem.W.findIn K (.ref a.x_TooMany) "__init__" = some (some (.ref a.f_TooManyD_initD))
  it_TooMany : PySem.W.typeIn K (.ref a.f_TooManyD_initD) = some (.type "function")
  fn_TooManyD_initD : Fun K "__init__" "TooMany.__init__" s_TooManyD_initD a.f_TooManyD_initD a.d_TooManyD_initD
  nmost_TooMany : PySem.W.findIn K (.ref a.x_TooMany) "most" = some none
  mr_TooMany : MroIs K a.x_TooMany [.ref a.x_TooMany, .ref a.x_NoWay, .ref a.x_ModesError, .type "ValueError", .type "Exception", .type "BaseException", .type "object"]
  mg_NoKind : mg "NoKind" = some (.ref a.x_NoKind)
  ox_NoKind : OexC K a.x_NoKind
  ec_NoKind : ExcC K a.x_NoKind
  ic_NoKind : PySem.W.findIn K (.ref a.x_NoKind) "__init__" = some (some (.ref a.f_NoKindD_initD))
  it_NoKind : PySem.W.typeIn K (.ref a.f_NoKindD_initD) = some (.type "function")
  fn_NoKindD_initD : Fun K "__init__" "NoKind.__init__" s_NoKindD_initD a.f_NoKindD_initD a.d_NoKindD_initD
  mr_NoKind : MroIs K a.x_NoKind [.ref a.x_NoKind, .ref a.x_NoWay, .ref a.x_ModesError, .type "ValueError", .type "Exception", .type "BaseException", .type "object"]
  mg_BadInput : mg "BadInput" = some (.ref a.x_BadInput)
  mg_NoWay : mg "NoWay" = some (.ref a.x_NoWay)
  mg_ModesError : mg "ModesError" = some (.ref a.x_ModesError)
  ci_BadMode : (PySem.W.clsIn K a.x_BadMode).isSome = true
  ti_BadMode : PySem.W.typeIn K (.ref a.x_BadMode) = some (.type "type")
  ci_BadClause : (PySem.W.clsIn K a.x_BadClause).isSome = true
  ti_BadClause : PySem.W.typeIn K (.ref a.x_BadClause) = some (.type "type")
  ci_BadName : (PySem.W.clsIn K a.x_BadName).isSome = true
  ti_BadName : PySem.W.typeIn K (.ref a.x_BadName) = some (.type "type")
  ci_BadPath : (PySem.W.clsIn K a.x_BadPath).isSome = true
  ti_BadPath : PySem.W.typeIn K (.ref a.x_BadPath) = some (.type "type")
  ci_BadUser : (PySem.W.clsIn K a.x_BadUser).isSome = true
  ti_BadUser : PySem.W.typeIn K (.ref a.x_BadUser) = some (.type "type")
  ci_BadCommand : (PySem.W.clsIn K a.x_BadCommand).isSome = true
  ti_BadCommand : PySem.W.typeIn K (.ref a.x_BadCommand) = some (.type "type")
  ci_BadKind : (PySem.W.clsIn K a.x_BadKind).isSome = true
  ti_BadKind : PySem.W.typeIn K (.ref a.x_BadKind) = some (.type "type")
  ci_BadStand : (PySem.W.clsIn K a.x_BadStand).isSome = true
  ti_BadStand : PySem.W.typeIn K (.ref a.x_BadStand) = some (.type "type")
  ci_BadBeat : (PySem.W.clsIn K a.x_BadBeat).isSome = true
  ti_BadBeat : PySem.W.typeIn K (.ref a.x_BadBeat) = some (.type "type")
  ci_BadText : (PySem.W.clsIn K a.x_BadText).isSome = true
  ti_BadText : PySem.W.typeIn K (.ref a.x_BadText) = some (.type "type")
  ci_NoEntry : (PySem.W.clsIn K a.x_NoEntry).isSome = true
  ti_NoEntry : PySem.W.typeIn K (.ref a.x_NoEntry) = some (.type "type")
  ci_NoCommand : (PySem.W.clsIn K a.x_NoCommand).isSome = true
  ti_NoCommand : PySem.W.typeIn K (.ref a.x_NoCommand) = some (.type "type")
  ci_NoStand : (PySem.W.clsIn K a.x_NoStand).isSome = true
  ti_NoStand : PySem.W.typeIn K (.ref a.x_NoStand) = some (.type "type")
  ci_TooMany : (PySem.W.clsIn K a.x_TooMany).isSome = true
  ti_TooMany : PySem.W.typeIn K (.ref a.x_TooMany) = some (.type "type")
  ci_NoKind : (PySem.W.clsIn K a.x_NoKind).isSome = true
  ti_NoKind : PySem.W.typeIn K (.ref a.x_NoKind) = some (.type "type")
  ci_BadInput : (PySem.W.clsIn K a.x_BadInput).isSome = true
  ti_BadInput : PySem.W.typeIn K (.ref a.x_BadInput) = some (.type "type")
  ci_NoWay : (PySem.W.clsIn K a.x_NoWay).isSome = true
  ti_NoWay : PySem.W.typeIn K (.ref a.x_NoWay) = some (.type "type")
  ci_ModesError : (PySem.W.clsIn K a.x_ModesError).isSome = true
  ti_ModesError : PySem.W.typeIn K (.ref a.x_ModesError) = some (.type "type")
  nd : a.all.Nodup
theorem bd__law_bag {w : World} {K : PySem.W.Frag} {mg : Str → Option Value} {a : Ads} (T : Txt w K mg a) : L2.Binds K a.d__law_bag ["_law_script"] [] := T.fn__law_bag.binds (ps := ["_law_script"]) fun _ _ _ _ _ _ us hl => match us, hl with | [_], _ => rfl
theorem bd__law_draw {w : World} {K : PySem.W.Frag} {mg : Str → Option Value} {a : Ads} (T : Txt w K mg a) : L2.Binds K a.d__law_draw ["_law_bag_here", "_law_limit"] [] := T.fn__law_draw.binds (ps := ["_law_bag_here", "_law_limit"]) fun _ _ _ _ _ _ us hl => match us, hl with | [_, _], _ => rfl
theorem bd__law_field {w : World} {K : PySem.W.Frag} {mg : Str → Option Value} {a : Ads} (T : Txt w K mg a) : L2.Binds K a.d__law_field ["_law_bag_here"] [] := T.fn__law_field.binds (ps := ["_law_bag_here"]) fun _ _ _ _ _ _ us hl => match us, hl with | [_], _ => rfl
theorem bd__law_made {w : World} {K : PySem.W.Frag} {mg : Str → Option Value} {a : Ads} (T : Txt w K mg a) : L2.Binds K a.d__law_made ["_law_which", "_law_one", "_law_other"] [] := T.fn__law_made.binds (ps := ["_law_which", "_law_one", "_law_other"]) fun _ _ _ _ _ _ us hl => match us, hl with | [_, _, _], _ => rfl
theorem bd__law_named {w : World} {K : PySem.W.Frag} {mg : Str → Option Value} {a : Ads} (T : Txt w K mg a) : L2.Binds K a.d__law_named ["_law_which", "_law_one", "_law_other"] [] := T.fn__law_named.binds (ps := ["_law_which", "_law_one", "_law_other"]) fun _ _ _ _ _ _ us hl => match us, hl with | [_, _, _], _ => rfl
theorem bd__law_fields {w : World} {K : PySem.W.Frag} {mg : Str → Option Value} {a : Ads} (T : Txt w K mg a) : L2.Binds K a.d__law_fields ["_law_which", "_law_error"] [] := T.fn__law_fields.binds (ps := ["_law_which", "_law_error"]) fun _ _ _ _ _ _ us hl => match us, hl with | [_, _], _ => rfl
theorem bd__law_classes {w : World} {K : PySem.W.Frag} {mg : Str → Option Value} {a : Ads} (T : Txt w K mg a) : L2.Binds K a.d__law_classes ["_law_error"] [] := T.fn__law_classes.binds (ps := ["_law_error"]) fun _ _ _ _ _ _ us hl => match us, hl with | [_], _ => rfl
theorem bd_BadModeD_initD {w : World} {K : PySem.W.Frag} {mg : Str → Option Value} {a : Ads} (T : Txt w K mg a) : L2.Binds K a.d_BadModeD_initD ["self", "part"] [] := T.fn_BadModeD_initD.binds (ps := ["self", "part"]) fun _ _ _ _ _ _ us hl => match us, hl with | [_, _], _ => rfl
theorem bd_BadClauseD_initD {w : World} {K : PySem.W.Frag} {mg : Str → Option Value} {a : Ads} (T : Txt w K mg a) : L2.Binds K a.d_BadClauseD_initD ["self", "at"] [] := T.fn_BadClauseD_initD.binds (ps := ["self", "at"]) fun _ _ _ _ _ _ us hl => match us, hl with | [_, _], _ => rfl
theorem bd_BadNameD_initD {w : World} {K : PySem.W.Frag} {mg : Str → Option Value} {a : Ads} (T : Txt w K mg a) : L2.Binds K a.d_BadNameD_initD ["self", "name"] [] := T.fn_BadNameD_initD.binds (ps := ["self", "name"]) fun _ _ _ _ _ _ us hl => match us, hl with | [_, _], _ => rfl
theorem bd_BadPathD_initD {w : World} {K : PySem.W.Frag} {mg : Str → Option Value} {a : Ads} (T : Txt w K mg a) : L2.Binds K a.d_BadPathD_initD ["self", "path"] [] := T.fn_BadPathD_initD.binds (ps := ["self", "path"]) fun _ _ _ _ _ _ us hl => match us, hl with | [_, _], _ => rfl
theorem bd_BadUserD_initD {w : World} {K : PySem.W.Frag} {mg : Str → Option Value} {a : Ads} (T : Txt w K mg a) : L2.Binds K a.d_BadUserD_initD ["self", "part"] [] := T.fn_BadUserD_initD.binds (ps := ["self", "part"]) fun _ _ _ _ _ _ us hl => match us, hl with | [_, _], _ => rfl
theorem bd_BadCommandD_initD {w : World} {K : PySem.W.Frag} {mg : Str → Option Value} {a : Ads} (T : Txt w K mg a) : L2.Binds K a.d_BadCommandD_initD ["self", "part"] [] := T.fn_BadCommandD_initD.binds (ps := ["self", "part"]) fun _ _ _ _ _ _ us hl => match us, hl with | [_, _], _ => rfl
theorem bd_BadKindD_initD {w : World} {K : PySem.W.Frag} {mg : Str → Option Value} {a : Ads} (T : Txt w K mg a) : L2.Binds K a.d_BadKindD_initD ["self", "at"] [] := T.fn_BadKindD_initD.binds (ps := ["self", "at"]) fun _ _ _ _ _ _ us hl => match us, hl with | [_, _], _ => rfl
theorem bd_BadStandD_initD {w : World} {K : PySem.W.Frag} {mg : Str → Option Value} {a : Ads} (T : Txt w K mg a) : L2.Binds K a.d_BadStandD_initD ["self", "index"] [] := T.fn_BadStandD_initD.binds (ps := ["self", "index"]) fun _ _ _ _ _ _ us hl => match us, hl with | [_, _], _ => rfl
theorem bd_BadBeatD_initD {w : World} {K : PySem.W.Frag} {mg : Str → Option Value} {a : Ads} (T : Txt w K mg a) : L2.Binds K a.d_BadBeatD_initD ["self", "part"] [] := T.fn_BadBeatD_initD.binds (ps := ["self", "part"]) fun _ _ _ _ _ _ us hl => match us, hl with | [_, _], _ => rfl
theorem bd_BadTextD_initD {w : World} {K : PySem.W.Frag} {mg : Str → Option Value} {a : Ads} (T : Txt w K mg a) : L2.Binds K a.d_BadTextD_initD ["self", "line", "word"] [] := T.fn_BadTextD_initD.binds (ps := ["self", "line", "word"]) fun _ _ _ _ _ _ us hl => match us, hl with | [_, _, _], _ => rfl
theorem bd_NoEntryD_initD {w : World} {K : PySem.W.Frag} {mg : Str → Option Value} {a : Ads} (T : Txt w K mg a) : L2.Binds K a.d_NoEntryD_initD ["self", "path"] [] := T.fn_NoEntryD_initD.binds (ps := ["self", "path"]) fun _ _ _ _ _ _ us hl => match us, hl with | [_, _], _ => rfl
theorem bd_NoCommandD_initD {w : World} {K : PySem.W.Frag} {mg : Str → Option Value} {a : Ads} (T : Txt w K mg a) : L2.Binds K a.d_NoCommandD_initD ["self", "index"] [] := T.fn_NoCommandD_initD.binds (ps := ["self", "index"]) fun _ _ _ _ _ _ us hl => match us, hl with | [_, _], _ => rfl
theorem bd_NoStandD_initD {w : World} {K : PySem.W.Frag} {mg : Str → Option Value} {a : Ads} (T : Txt w K mg a) : L2.Binds K a.d_NoStandD_initD ["self", "joint"] [] := T.fn_NoStandD_initD.binds (ps := ["self", "joint"]) fun _ _ _ _ _ _ us hl => match us, hl with | [_, _], _ => rfl
theorem bd_TooManyD_initD {w : World} {K : PySem.W.Frag} {mg : Str → Option Value} {a : Ads} (T : Txt w K mg a) : L2.Binds K a.d_TooManyD_initD ["self", "most"] [] := T.fn_TooManyD_initD.binds (ps := ["self", "most"]) fun _ _ _ _ _ _ us hl => match us, hl with | [_, _], _ => rfl
theorem bd_NoKindD_initD {w : World} {K : PySem.W.Frag} {mg : Str → Option Value} {a : Ads} (T : Txt w K mg a) : L2.Binds K a.d_NoKindD_initD ["self"] [] := T.fn_NoKindD_initD.binds (ps := ["self"]) fun _ _ _ _ _ _ us hl => match us, hl with | [_], _ => rfl
end KO
set_option Elab.async false
set_option linter.all false
set_option maxRecDepth 100000
set_option maxHeartbeats 4000000
namespace KO
open PySem PySem.Spec PyProof.Rows L2 Evl KF
local macro_rules | `(tactic| walk_at "ev") => `(tactic| repeat' (first | exact ev_c | exact ev_var rfl | exact rv_I0 | refine' rv_I ?_ | refine' rv_eq ?_ | refine' rv_ne ?_ | refine' ev_op ?_ ?_ ?_ | exact ea_nil | refine' ea_cons ?_ ?_ | refine' et_test ?_ | refine' et_B ?_ | refine' et_not ?_ | refine' ev_notV ?_))

theorem put_some {kvs : List (Key × V)} {k : Key} {v y : V} (h : valV kvs k = some y) : putK kvs k v = kvs.map (fun kv => if kv.1 = k then (kv.1, v) else kv) := by
  unfold putK; rw [valV_any, h]; exact if_pos rfl
/-- three different keys, merged -/
theorem merge3 {k1 k2 k3 : Key} {x y z : V} (h1 : k1 ≠ k2) (h2 : k1 ≠ k3) (h3 : k2 ≠ k3) : mergeK [] [(k1, x), (k2, y), (k3, z)] = [(k1, x), (k2, y), (k3, z)] := by
  have e1 : putK [] k1 x = [(k1, x)] := putK_new x rfl
  have e2 : putK [(k1, x)] k2 y = [(k1, x), (k2, y)] := putK_new y ((valV_neg h1).trans rfl)
  have e3 : putK [(k1, x), (k2, y)] k3 z = [(k1, x), (k2, y), (k3, z)] := putK_new z ((valV_neg h2).trans ((valV_neg h3).trans rfl))
  show putK (putK (putK [] k1 x) k2 y) k3 z = _
  rw [e1, e2, e3]
/-- a new dict -/
def EvD (te : TE) (σ : L2.St) (H : Hp) (kvs : List (Key × V)) : Prop := ∀ H1, Ex H H1 → ∀ Q : VK, (∀ p H2, H1 p = none → Ex H1 H2 → H2 p = some (.dK kvs) → Q (.ref p) H2) → te σ H1 Q
section
variable {K : PySem.W.Frag} {σ : L2.St} {H H' : Hp} {ta tb te tx tv : TE} {t u : TT} {x y z v : V} {r : R2} {D : Ends} {tz : TS}
theorem ed_disp3 {s1 s2 s3 : Str} {t1 t2 t3 v1 v2 v3 : TE} (k1 : Ev t1 σ H (.str s1)) (h1 : Ev v1 σ H x) (k2 : Ev t2 σ H (.str s2)) (h2 : Ev v2 σ H y) (k3 : Ev t3 σ H (.str s3)) (h3 : Ev v3 σ H z) (n1 : (Sum.inr s1 : Key) ≠ .inr s2) (n2 : (Sum.inr s1 : Key) ≠ .inr s3) (n3 : (Sum.inr s2 : Key) ≠ .inr s3) :
    EvD (tDisp [(t1, v1), (t2, v2), (t3, v3)]) σ H [(.inr s1, x), (.inr s2, y), (.inr s3, z)] := fun H1 e Q q p hp => by
  have e0 : Ex H (upd H1 p (.dK [])) := e.trans (Ex.new hp)
  refine k1 _ e0 _ fun H2 e2 => h1 H2 (e0.trans e2) _ fun H3 e3 => k2 H3 ((e0.trans e2).trans e3) _ fun H4 e4 => h2 H4 (((e0.trans e2).trans e3).trans e4) _ fun H5 e5 => k3 H5 ((((e0.trans e2).trans e3).trans e4).trans e5) _ fun H6 e6 => h3 H6 (((((e0.trans e2).trans e3).trans e4).trans e5).trans e6) _ fun H7 e7 => ?_
  have e27 : Ex (upd H1 p (.dK [])) H7 := ((((e2.trans e3).trans e4).trans e5).trans e6).trans e7
  refine ⟨e27 _ _ upd_same, [(.inr s1, x), (.inr s2, y), (.inr s3, z)], rfl, by show 3 ≤ 15; decide, ?_⟩
  rw [merge3 n1 n2 n3]
  exact q p _ hp (fun b o hb => by rw [upd_ne (ne_of_none hb hp)]; exact e27 _ _ (Ex.new hp _ _ hb)) upd_same
theorem q_asgD {i : Nat} {kvs : List (Key × V)} (h : EvD te σ H kvs) (k : ∀ p H1, H p = none → Ex H H1 → H1 p = some (.dK kvs) → tz D (σ.set i (some (.ref p))) H1) : tSeq (tAsg te (gName i)) tz D σ H := h H (Ex.refl H) _ fun p H1 hp e h1 => k p H1 hp e h1
theorem ev_dget {d : Addr} {kvs : List (Key × V)} {s : Str} (h : Ev ta σ H (.ref d)) (hk : Ev tb σ H (.str s)) (hd : H d = some (.dK kvs)) (e : valV kvs (.inr s) = some v) : Ev (tDGet ta tb) σ H v := fun H1 e1 Q q =>
  h H1 e1 _ fun H2 e2 => hk H2 (e1.trans e2) _ fun H3 e3 => ⟨d, v, rfl, by rw [← e]; exact DGet.k (k := .inr s) (e3 _ _ (e2 _ _ (e1 _ _ hd))), q H3 (e2.trans e3)⟩
theorem ev_dget2 {d : Addr} {kvs : List (Key × V)} {s : Str} (h : Ev ta σ H (.ref d)) (hk : Ev tb σ H (.str s)) (hx : Ev tx σ H x) (hd : H d = some (.dK kvs)) : Ev (tDGet2 ta tb tx) σ H ((valV kvs (.inr s)).getD x) := fun H1 e1 Q q =>
  h H1 e1 _ fun H2 e2 => ⟨d, rfl, .inl ⟨kvs, .inl (e2 _ _ (e1 _ _ hd))⟩, hk H2 (e1.trans e2) _ fun H3 e3 => hx H3 ((e1.trans e2).trans e3) _ fun H4 e4 => ⟨_, DGet.k (k := .inr s) (e4 _ _ (e3 _ _ (e2 _ _ (e1 _ _ hd)))), q H4 ((e2.trans e3).trans e4)⟩⟩
theorem et_dnotin {d : Addr} {kvs : List (Key × V)} {s : Str} (hk : Ev ta σ H (.str s)) (h : Ev tb σ H (.ref d)) (hd : H d = some (.dK kvs)) : EvT (tB (tDNotIn ta tb)) σ H (!(valV kvs (.inr s)).isSome) := fun H1 e1 Q q =>
  hk H1 e1 _ fun H2 e2 => h H2 (e1.trans e2) _ fun H3 e3 => ⟨d, _, rfl, DGet.k (k := .inr s) (e3 _ _ (e2 _ _ (e1 _ _ hd))), _, rfl, q H3 (e2.trans e3)⟩
theorem ed_copy {d : Addr} {kvs : List (Key × V)} (h : Ev ta σ H (.ref d)) (hd : H d = some (.dK kvs)) : EvD (tCB (fun xs H Q => ∃ (a : Addr) (kvs : List (Key × V)), xs = [V.ref a] ∧ Rd H a (.dK kvs) ∧ ∀ p, H p = none → Q (.ref p) (upd H p (.dK kvs))) (tCons ta tNil)) σ H kvs := fun H1 e1 Q q =>
  h H1 e1 _ fun H2 e2 => ⟨d, kvs, rfl, .inl (e2 _ _ (e1 _ _ hd)), fun p hp => q p _ (fresh_back e2 hp) (e2.trans (Ex.new hp)) upd_same⟩
theorem q_dput {d : Addr} {kvs : List (Key × V)} {s : Str} (hv : Ev tv σ H v) (h : Ev ta σ H (.ref d)) (hk : Ev tb σ H (.str s)) (hd : H d = some (.dK kvs)) (hl : kvs.length < 1000) (k : ∀ H1, Ex H H1 → D.nx σ (upd H1 d (.dK (putK kvs (.inr s) v)))) : sDPut ta tb tv D σ H :=
  hv H (Ex.refl H) _ fun H1 e1 => h H1 e1 _ fun H2 e2 => hk H2 (e1.trans e2) _ fun H3 e3 => ⟨d, _, rfl, DPut.k (k := .inr s) (e3 _ _ (e2 _ _ (e1 _ _ hd))) (small1000 (Nat.le_of_lt hl)), k H3 ((e1.trans e2).trans e3)⟩
/-- over the signs of a text -/
theorem q_forS {s : Str} {j : Nat} {ts : TS} (h : Ev te σ H (.str s)) (Pv : Nat → L2.St → Hp → Prop) (h0 : ∀ H1, Ex H H1 → Pv 0 σ H1)
    (hs : ∀ (i c : Nat) σ' H', s.cps.toList[i]? = some c → Pv i σ' H' → ts { D with nx := Pv (i + 1), ct := Pv (i + 1), bk := tz D } (σ'.set j (some (.str ⟨#[c]⟩))) H') (hd : ∀ σ' H', Pv s.cps.size σ' H' → tz D σ' H') : tSeq (tFor (iStr te) (gName j) ts) tz D σ H :=
  h H (Ex.refl H) _ fun H1 e1 => ⟨s, rfl, fun i m σ' H' => m = s.cps.size - i ∧ i ≤ s.cps.size ∧ Pv i σ' H', ⟨s.cps.size, by simp, Nat.zero_le _, h0 H1 e1⟩, by
    rintro i m σ' H' ⟨rfl, hi, p⟩
    by_cases hlt : i < s.cps.size
    · refine .inr ⟨hlt, Pv (i + 1), fun σ2 H2 p' => ⟨s.cps.size - (i + 1), by omega, rfl, hlt, p'⟩, ?_⟩
      rintro x H2 ⟨rfl, c, hc, rfl⟩
      rw [← Array.getElem?_toList] at hc
      exact hs i c σ' _ hc p
    · have e : i = s.cps.size := by omega
      subst e
      exact .inl ⟨Nat.le_refl _, hd σ' H' p⟩⟩
theorem q_asgTV {p : Addr} {xs : List V} {n : Nat} {tgs : TGs} (h : Ev te σ H (.ref p)) (hx : SqT K H p xs) (hl : xs.length = n) (k : ∀ H1, Ex H H1 → tgs xs σ H1 (tz D)) : tSeq (tAsg te (gTup K n tgs)) tz D σ H :=
  h H (Ex.refl _) _ fun H1 e => ⟨p, xs, rfl, ex_t e hx, hl, k H1 e⟩
end
end KO
set_option Elab.async false
set_option linter.all false
set_option maxRecDepth 100000
set_option maxHeartbeats 4000000
namespace KO
open PySem PySem.Spec PyProof.Rows L2 Evl KF
local macro_rules | `(tactic| walk_at "ev") => `(tactic| repeat' (first | exact ev_c | exact ev_var rfl | exact rv_I0 | refine' rv_I ?_ | refine' rv_eq ?_ | refine' rv_ne ?_ | refine' ev_op ?_ ?_ ?_ | exact ea_nil | refine' ea_cons ?_ ?_ | refine' et_test ?_ | refine' et_B ?_ | refine' et_not ?_ | refine' ev_notV ?_))

open PySem
/-! ### what draws: a dict of the cells, where one stands, what is left of a great one, the state -/
def bagK (l : Addr) (at_ : Nat) (rest state : Int) : List (Key × V) := [(.inr "cells", .ref l), (.inr "which", .int at_), (.inr "rest", .int rest), (.inr "state", .int state)]
def BagAt (H : Hp) (p : Addr) : Prop := ∃ (l : Addr) (ns : List Int) (at_ : Nat) (rest state : Int), H p = some (.dK (bagK l at_ rest state)) ∧ H l = some (.lst (ns.map V.int)) ∧ l ≠ p ∧ at_ ≤ ns.length ∧ ns.length ≤ 63 ∧ 0 ≤ rest ∧ 0 ≤ state ∧ state < 2147483647
theorem BagAt.keep {H H' : Hp} {p : Addr} (h : BagAt H p) (e : Ex H H') : BagAt H' p := by
  obtain ⟨l, ns, at_, rest, state, h1, h2, h3⟩ := h
  exact ⟨l, ns, at_, rest, state, e _ _ h1, e _ _ h2, h3⟩
/-- all but p stays -/
def ExB (p : Addr) (H H' : Hp) : Prop := ∀ b o, H b = some o → b ≠ p → H' b = some o
theorem ExB.of {p : Addr} {H H' : Hp} (e : Ex H H') : ExB p H H' := fun b o h _ => e b o h
theorem ExB.trans {p : Addr} {H H1 H2 : Hp} (a : ExB p H H1) (b : ExB p H1 H2) : ExB p H H2 := fun c o h n => b c o (a c o h n) n
def spBag (K : PySem.W.Frag) : Sp := fun vs H Q _ => ∃ (s : Addr) (ns : List Int), vs = [.ref s] ∧ SqL K H s (ns.map V.int) ∧ ns.length ≤ 63 ∧ ∀ p H', H p = none → Ex H H' → BagAt H' p → Q (.ref p) H'
def spDraw : Sp := fun vs H Q _ => ∃ (p : Addr) (m : Nat), vs = [.ref p, .int m] ∧ BagAt H p ∧ 0 < m ∧ m ≤ 1000 ∧ ∀ (d : Nat) H', d < m → ExB p H H' → BagAt H' p → Q (.int d) H'
theorem bag_ne : (Sum.inr "cells" : Key) ≠ .inr "which" ∧ (Sum.inr "cells" : Key) ≠ .inr "rest" ∧ (Sum.inr "cells" : Key) ≠ .inr "state" ∧ (Sum.inr "which" : Key) ≠ .inr "rest" ∧ (Sum.inr "which" : Key) ≠ .inr "state" ∧ (Sum.inr "rest" : Key) ≠ .inr "state" := by decide +kernel
section
variable {l : Addr} {at_ : Nat} {rest state : Int}
theorem bag_cells : valV (bagK l at_ rest state) (.inr "cells") = some (.ref l) := valV_pos rfl
theorem bag_at : valV (bagK l at_ rest state) (.inr "which") = some (.int at_) := (valV_neg bag_ne.1).trans (valV_pos rfl)
theorem bag_rest : valV (bagK l at_ rest state) (.inr "rest") = some (.int rest) := (valV_neg bag_ne.2.1).trans ((valV_neg bag_ne.2.2.2.1).trans (valV_pos rfl))
theorem bag_state : valV (bagK l at_ rest state) (.inr "state") = some (.int state) := (valV_neg bag_ne.2.2.1).trans ((valV_neg bag_ne.2.2.2.2.1).trans ((valV_neg bag_ne.2.2.2.2.2).trans (valV_pos rfl)))
theorem put_at {n : Nat} : putK (bagK l at_ rest state) (.inr "which") (.int n) = bagK l n rest state := by
  rw [put_some bag_at]
  simp only [bagK, List.map_cons, List.map_nil, if_pos, if_neg bag_ne.1, if_neg bag_ne.2.2.2.1.symm, if_neg bag_ne.2.2.2.2.1.symm]
theorem put_rest {r : Int} : putK (bagK l at_ rest state) (.inr "rest") (.int r) = bagK l at_ r state := by
  rw [put_some bag_rest]
  simp only [bagK, List.map_cons, List.map_nil, if_pos, if_neg bag_ne.2.1, if_neg bag_ne.2.2.2.1, if_neg bag_ne.2.2.2.2.2.symm]
theorem put_state {r : Int} : putK (bagK l at_ rest state) (.inr "state") (.int r) = bagK l at_ rest r := by
  rw [put_some bag_state]
  simp only [bagK, List.map_cons, List.map_nil, if_pos, if_neg bag_ne.2.2.1, if_neg bag_ne.2.2.2.2.1, if_neg bag_ne.2.2.2.2.2]
end
theorem cut_ints (ns : List Int) (lo hi : Option Int) : ∃ ms : List Int, cutV (ns.map V.int) lo hi = ms.map V.int ∧ ms.length ≤ ns.length := by
  refine ⟨(ns.drop (HT.sIx ns.length 0 lo)).take (HT.sIx ns.length ns.length hi - HT.sIx ns.length 0 lo), ?_, ?_⟩
  · unfold cutV
    rw [List.length_map, List.map_take, List.map_drop]
  · rw [List.length_take, List.length_drop]
    omega
section
variable {K : PySem.W.Frag} {σ : L2.St} {H H' : Hp} {ta tb te tx tv : TE} {D : Ends} {tz : TS} {v : V}
theorem el_listN {xs : List V} (h : EvL te σ H xs) : EvL (tCB (fun xs H Q => ∃ p ys, xs = [V.ref p] ∧ (SqL K H p ys ∨ SqT K H p ys) ∧ ∀ l, H l = none → Q (.ref l) (upd H l (.lst ys))) (tCons te tNil)) σ H xs := fun H1 e Q q =>
  h H1 e _ fun p H2 _ e2 h2 => ⟨p, xs, rfl, .inl (sq_of h2), fun l hl => q l _ (fresh_back e2 hl) (e2.trans (Ex.new hl)) upd_same⟩
theorem ev_int {i : Int} (h : Ev te σ H (.int i)) : Ev (tCB (fun xs H Q => (∃ i, xs = [V.int i] ∧ Q (.int i) H) ∨ ∃ k, xs = [V.bl k] ∧ Q (.int (if k then 1 else 0)) H) (tCons te tNil)) σ H (.int i) := fun H1 e Q q => h H1 e _ fun H2 e2 => .inl ⟨i, rfl, q H2 e2⟩
theorem ev_lenS {p : Addr} {xs : List V} (ha : Ev ta σ H (.ref p)) (h : SqL K H p xs) : Ev (tCB (fun xs H Q => ∃ p ys, xs = [V.ref p] ∧ (SqL K H p ys ∨ SqT K H p ys) ∧ Q (.int (ys.length : Nat)) H) (tCons ta tNil)) σ H (.int (xs.length : Nat)) := ev_len ha h
theorem ev_abs {i : Int} (h : Ev te σ H (.int i)) : Ev (tCB (fun xs H Q => ∃ i, xs = [V.int i] ∧ Q (.int (if i < 0 then -i else i)) H) (tCons te tNil)) σ H (.int (if i < 0 then -i else i)) := fun H1 e Q q => h H1 e _ fun H2 e2 => ⟨i, rfl, q H2 e2⟩
/-- a new dict of four, the first entry a new list -/
theorem s_retBag {t1 t2 t3 t4 v1 v2 v3 v4 : TE} {s1 s2 s3 s4 : Str} {xs : List V} {y z u : V} (k1 : Ev t1 σ H (.str s1)) (h1 : EvL v1 σ H xs) (k2 : Ev t2 σ H (.str s2)) (h2 : Ev v2 σ H y) (k3 : Ev t3 σ H (.str s3)) (h3 : Ev v3 σ H z) (k4 : Ev t4 σ H (.str s4)) (h4 : Ev v4 σ H u)
    (ne : (Sum.inr s1 : Key) ≠ .inr s2 ∧ (Sum.inr s1 : Key) ≠ .inr s3 ∧ (Sum.inr s1 : Key) ≠ .inr s4 ∧ (Sum.inr s2 : Key) ≠ .inr s3 ∧ (Sum.inr s2 : Key) ≠ .inr s4 ∧ (Sum.inr s3 : Key) ≠ .inr s4)
    (k : ∀ l p H1, H p = none → Ex H H1 → l ≠ p → H1 l = some (.lst xs) → H1 p = some (.dK [(.inr s1, .ref l), (.inr s2, y), (.inr s3, z), (.inr s4, u)]) → D.rt (.ref p) H1) : tRet (tDisp [(t1, v1), (t2, v2), (t3, v3), (t4, v4)]) D σ H := fun p hp => by
  have e0 : Ex H (upd H p (.dK [])) := Ex.new hp
  refine k1 _ e0 _ fun H2 e2 => h1 H2 (e0.trans e2) _ fun l H3 hl e3 x3 => k2 H3 ((e0.trans e2).trans e3) _ fun H4 e4 => h2 H4 (((e0.trans e2).trans e3).trans e4) _ fun H5 e5 => k3 H5 ((((e0.trans e2).trans e3).trans e4).trans e5) _ fun H6 e6 => h3 H6 (((((e0.trans e2).trans e3).trans e4).trans e5).trans e6) _ fun H7 e7 => k4 H7 ((((((e0.trans e2).trans e3).trans e4).trans e5).trans e6).trans e7) _ fun H8 e8 => h4 H8 (((((((e0.trans e2).trans e3).trans e4).trans e5).trans e6).trans e7).trans e8) _ fun H9 e9 => ?_
  have e29 : Ex (upd H p (.dK [])) H9 := ((((((e2.trans e3).trans e4).trans e5).trans e6).trans e7).trans e8).trans e9
  have lp : l ≠ p := fun q => by rw [q, e2 _ _ upd_same] at hl; cases hl
  refine ⟨e29 _ _ upd_same, [(.inr s1, .ref l), (.inr s2, y), (.inr s3, z), (.inr s4, u)], rfl, by show 4 ≤ 15; decide, ?_⟩
  have m4 : mergeK [] [(.inr s1, V.ref l), (.inr s2, y), (.inr s3, z), (.inr s4, u)] = [(.inr s1, .ref l), (.inr s2, y), (.inr s3, z), (.inr s4, u)] := by
    show putK (mergeK [] [(.inr s1, V.ref l), (.inr s2, y), (.inr s3, z)]) (.inr s4) u = _
    rw [merge3 ne.1 ne.2.1 ne.2.2.2.1]
    exact putK_new u ((valV_neg ne.2.2.1).trans ((valV_neg ne.2.2.2.2.1).trans ((valV_neg ne.2.2.2.2.2).trans rfl)))
  rw [m4]
  exact k l p _ hp (fun b o hb => by rw [upd_ne (ne_of_none hb hp)]; exact e29 _ _ (Ex.new hp _ _ hb)) lp (by rw [upd_ne lp]; exact ((((((e4.trans e5).trans e6).trans e7).trans e8).trans e9)) _ _ x3) upd_same
end
section
variable {P : Program} {w : World} {K : PySem.W.Frag} {mg : Str → Option Value} {base : Heap} {a : Ads}
theorem ok_bag (T : Txt w K mg a) : FnOk P w K mg base CX0 1 a.f__law_bag a.d__law_bag ["_law_script"] (spBag K) := by
  refine T.fn__law_bag.ok sc__law_bag (fun vs H Q E h => ?_) (fun cdv A outer s H vs Q E hr h => ?_)
  · obtain ⟨_, _, rfl, _⟩ := h
    rfl
  · obtain ⟨sc, ns, rfl, hs, hl, k⟩ := h
    refine ⟨_, (pss_cons (ps_set (i := 1) sc__law_bag.nd rfl (Or.inl rfl) pe_int)
    (pss_cons (ps_for PassesOwn.never rfl (pi_list (pe_slice sl_list (pv 0) po_none (po_some pe_int))) (pg_name (i := 2) sc__law_bag.nd rfl (Or.inl rfl)) (pss_one (ps_set (i := 1) sc__law_bag.nd rfl (Or.inl rfl) (pe_op op_mod (pe_callTy call_int1 (by rfl) T.b_int (by decide +kernel) (pa_cons (pe_op op_add (pe_op op_add (pe_op op_mul (pv 1) pe_int) (pe_op op_mod (pe_callB call_abs (by rfl) T.b_abs (by decide +kernel) (pa_cons (pv 2) pa_nil)) pe_int)) pe_int) pa_nil)) pe_int))))
    (pss_one (ps_ret (pe_disp (pps_cons pe_str (pe_callTy call_list_of (by rfl) T.b_list (by decide +kernel) (pa_cons (pe_slice sl_list (pv 0) po_none (po_some pe_int)) pa_nil)) (pps_cons pe_str pe_int (pps_cons pe_str pe_int (pps_cons pe_str (pv 1) pps_nil)))) (by rfl) (by rfl) (fun z => by cases z) (by decide)))))), ?_⟩
    obtain ⟨ms, e, hm⟩ := cut_ints ns none (some 63)
    refine q_asg (v := .int 7) ev_c fun H1 e1 => ?_
    refine q_forNL (K := K) (xs := ms.map V.int) (el_is (el_sl (K := K) (ev_var rfl) eo_none (eo_some ev_c) (ex_l e1 hs)) e) (fun p i σ' H' => ∃ (st : Int) (o2 : Option V), σ' = [some (.ref sc), some (.int st), o2] ∧ 0 ≤ st ∧ st < 2147483647 ∧ Ex H H' ∧ H' p = some (.lst (ms.map V.int))) (fun p H2 _ e2 h2 => ⟨7, _, rfl, by decide, by decide, e1.trans e2, h2⟩) (fun p i σ' H' _ q => by
      obtain ⟨_, _, _, _, _, _, h2⟩ := q
      exact sq_of h2) (fun p i x σ' H2 hx q => ?_) (fun p σ' H2 q => ?_)
    · obtain ⟨st, o2, rfl, s0, s1, e2, h2⟩ := q
      rw [List.getElem?_map] at hx
      obtain ⟨c, hc, rfl⟩ := Option.map_eq_some_iff.mp hx
      refine s_asg (v := .int ((st * 69621 + (if c < 0 then -c else c) % 2147483629 + 11) % 2147483647)) (ev_op (ev_int (ev_op (ev_op (ev_op (ev_var rfl) ev_c (rv_I (.inl ⟨by omega, by omega⟩))) (ev_op (ev_abs (ev_var rfl)) ev_c (rv_I (by decide))) rv_I0) ev_c rv_I0)) ev_c (rv_I (by decide))) fun H3 e3 => ⟨_, _, rfl, Int.emod_nonneg _ (by decide), Int.emod_lt_of_pos _ (by decide), e2.trans e3, e3 _ _ h2⟩
    · obtain ⟨st, o2, rfl, s0, s1, e2, h2⟩ := q
      refine s_retBag ev_c (el_listN (K := K) (el_is (el_sl (K := K) (ev_var rfl) eo_none (eo_some ev_c) (ex_l e2 hs)) e)) ev_c ev_c ev_c ev_c ev_c (ev_var rfl) bag_ne fun l p H3 hp e3 lp h3 hd => ?_
      exact k p H3 (fresh_back e2 hp) (e2.trans e3) ⟨l, ms, 0, 0, st, hd, h3, lp, Nat.zero_le _, by omega, Int.le_refl 0, s0, s1⟩
end
end KO
set_option Elab.async false
set_option linter.all false
set_option maxRecDepth 100000
set_option maxHeartbeats 4000000
namespace KO
open PySem PySem.Spec PyProof.Rows L2 Evl KF
local macro_rules | `(tactic| walk_at "ev") => `(tactic| repeat' (first | exact ev_c | exact ev_var rfl | exact rv_I0 | refine' rv_I ?_ | refine' rv_eq ?_ | refine' rv_ne ?_ | refine' ev_op ?_ ?_ ?_ | exact ea_nil | refine' ea_cons ?_ ?_ | refine' et_test ?_ | refine' et_B ?_ | refine' et_not ?_ | refine' ev_notV ?_))

open PySem
theorem q_dputS {σ : L2.St} {H : Hp} {ta tb tv : TE} {v : V} {D : Ends} {tz : TS} {d : Addr} {kvs : List (Key × V)} {s : Str} (hv : Ev tv σ H v) (h : Ev ta σ H (.ref d)) (hk : Ev tb σ H (.str s)) (hd : H d = some (.dK kvs)) (hl : kvs.length < 1000) (k : ∀ H1, Ex H H1 → tz D σ (upd H1 d (.dK (putK kvs (.inr s) v)))) : tSeq (sDPut ta tb tv) tz D σ H :=
  q_dput (D := { D with nx := tz D }) hv h hk hd hl k
section
variable {P : Program} {w : World} {K : PySem.W.Frag} {mg : Str → Option Value} {base : Heap} {a : Ads}
theorem ok_draw (T : Txt w K mg a) : FnOk P w K mg base CX0 1 a.f__law_draw a.d__law_draw ["_law_bag_here", "_law_limit"] spDraw := by
  refine T.fn__law_draw.ok sc__law_draw (fun vs H Q E h => ?_) (fun cdv A outer s H vs Q E hr h => ?_)
  · obtain ⟨_, _, rfl, _⟩ := h
    rfl
  · obtain ⟨p, m, rfl, ⟨l, ns, at0, rest0, st, hp, hl, lp, hat, hlen, hr0, hs0, hs1⟩, hm0, hm, k⟩ := h
    have hu := hu_of hr
    have hm1 : (0 : Int) < (m : Int) := by omega
    refine ⟨_, (pss_cons (ps_while PassesOwn.never (PW.pt (pw_and (pt_cmpR op_lt (pe_dget hu (pv 0) pe_str (fun _ _ => rfl)) pe_int (nomark _)) (pw_and1 (pt_cmpR op_lt (pe_dget hu (pv 0) pe_str (fun _ _ => rfl)) (pe_callB call_len_seq (by rfl) T.b_len PySem.boot_len (pa_cons (pe_dget hu (pv 0) pe_str (fun _ _ => rfl)) pa_nil)) (nomark _))))) (pss_cons (ps_set (i := 2) sc__law_draw.nd rfl (Or.inl rfl) (pe_callB call_abs (by rfl) T.b_abs (by decide +kernel) (pa_cons (pe_ix ix_list (pe_dget hu (pv 0) pe_str (fun _ _ => rfl)) (pe_dget hu (pv 0) pe_str (fun _ _ => rfl)) (fun _ _ => rfl)) pa_nil)))
    (pss_cons (ps_dput hu (pv 0) pe_str (pe_op op_add (pe_dget hu (pv 0) pe_str (fun _ _ => rfl)) pe_int) rfl)
    (pss_cons (ps_if (pt_cmpR op_lt (pv 2) (pe_op op_pow pe_int pe_int) (nomark _)) (pss_cons (ps_set (i := 3) sc__law_draw.nd rfl (Or.inl rfl) (pe_op op_mod (pe_callTy call_int1 (by rfl) T.b_int (by decide +kernel) (pa_cons (pe_op op_add (pe_op op_pow (pe_op op_add (pv 2) pe_int) pe_int) (pe_op op_mul (pe_dget hu (pv 0) pe_str (fun _ _ => rfl)) (pe_op op_add (pe_dget hu (pv 0) pe_str (fun _ _ => rfl)) pe_int))) pa_nil)) pe_int))
    (pss_one (ps_ret (pe_op op_mod (pv 3) (pv 1))))) pss_nil)
    (pss_one (ps_dput hu (pv 0) pe_str (pv 2) rfl))))))
    (pss_cons (ps_if (pt_cmpR op_ge (pe_dget hu (pv 0) pe_str (fun _ _ => rfl)) pe_int (nomark _)) (pss_cons (ps_set (i := 4) sc__law_draw.nd rfl (Or.inl rfl) (pe_op op_mod (pe_callTy call_int1 (by rfl) T.b_int (by decide +kernel) (pa_cons (pe_dget hu (pv 0) pe_str (fun _ _ => rfl)) pa_nil)) (pv 1)))
    (pss_cons (ps_dput hu (pv 0) pe_str (pe_op op_fdiv (pe_dget hu (pv 0) pe_str (fun _ _ => rfl)) (pv 1)) rfl)
    (pss_one (ps_ret (pv 4))))) pss_nil)
    (pss_cons (ps_dput hu (pv 0) pe_str (pe_op op_mod (pe_callTy call_int1 (by rfl) T.b_int (by decide +kernel) (pa_cons (pe_op op_add (pe_op op_mul (pe_dget hu (pv 0) pe_str (fun _ _ => rfl)) pe_int) pe_int) pa_nil)) pe_int) rfl)
    (pss_one (ps_ret (pe_op op_mod (pe_op op_mod (pe_callTy call_int1 (by rfl) T.b_int (by decide +kernel) (pa_cons (pe_op op_pow (pe_dget hu (pv 0) pe_str (fun _ _ => rfl)) pe_int) pa_nil)) pe_int) (pv 1))))))), ?_⟩
    have fin : ∀ (H1 : Hp) (x : Int) (b : Nat) (r s' : Int), ExB p H H1 → H1 p = some (.dK (bagK l b r s')) → b ≤ ns.length → 0 ≤ r → 0 ≤ s' → s' < 2147483647 → 0 ≤ x → x < m → Q (.int x) H1 := fun H1 x b r s' e h hb hr h0 h1 hx hx2 => by
      have ex : x = (x.toNat : Nat) := by omega
      rw [ex]
      exact k x.toNat H1 (by omega) e ⟨l, ns, b, r, s', h, e _ _ hl lp, lp, hb, hlen, hr, h0, h1⟩
    have h18 : (10 : Int) ^ (18 : Int).toNat = 1000000000000000000 := by decide
    let W : Nat → L2.St → Hp → Prop := fun mm σ' H' => ∃ (b : Nat) (r : Int) (o2 o3 o4 : Option V), mm = ns.length - b ∧ σ' = [some (.ref p), some (.int (m : Nat)), o2, o3, o4] ∧ ExB p H H' ∧ H' p = some (.dK (bagK l b r st)) ∧ b ≤ ns.length ∧ 0 ≤ r
    refine q_while W (ns.length - at0) ⟨at0, rest0, _, _, _, rfl, rfl, ExB.of (Ex.refl H), hp, hat, hr0⟩ fun mm σ' H' q => ?_
    obtain ⟨b, r, o2, o3, o4, rfl, rfl, e, hp', hb, hr'⟩ := q
    have hl' := e _ _ hl lp
    refine ⟨_, et_and (et_test (ev_op (ev_dget (ev_var rfl) ev_c hp' bag_rest) ev_c rv_I0)) (fun _ => et_test (ev_op (ev_dget (ev_var rfl) ev_c hp' bag_at) (ev_lenS (K := K) (ev_dget (ev_var rfl) ev_c hp' bag_cells) (sq_of hl')) rv_I0)), fun hb2 H1 e1 => ?_, fun _ H1 e1 => ?_⟩
    · have hlt : b < ns.length := by
        have := of_decide_eq_true (Bool.and_eq_true_iff.mp hb2).2
        rw [List.length_map] at this
        omega
      have hc : atI (ns.map V.int) ((b : Nat) : Int) = some (.int ns[b]) := atI_nat (by simp [hlt])
      generalize ns[b] = c at hc
      have hp1 := e1 _ _ hp'
      have hl1 := e1 _ _ hl'
      refine ⟨fun σ2 H2 => ∃ m', m' < ns.length - b ∧ W m' σ2 H2, fun σ2 H2 h => h, ?_⟩
      refine q_asg (v := .int (if c < 0 then -c else c)) (ev_abs (ev_op (ev_dget (ev_var rfl) ev_c hp1 bag_cells) (ev_dget (ev_var rfl) ev_c hp1 bag_at) (rv_ixL (K := K) (sq_of hl1) hc))) fun H2 e2 => ?_
      have c0 : 0 ≤ (if c < 0 then -c else c) := by split <;> omega
      generalize (if c < 0 then -c else c) = z at c0
      have hp2 := e2 _ _ hp1
      refine q_dputS (v := .int ((b + 1 : Nat) : Int)) (ev_is (ev_op (ev_dget (ev_var rfl) ev_c hp2 bag_at) ev_c rv_I0) (by rw [Int.natCast_add] <;> rfl)) (ev_var rfl) ev_c hp2 (by show 4 < 1000; decide) fun H3 e3 => ?_
      rw [put_at]
      have e4 : ExB p H (upd H3 p (.dK (bagK l (b + 1) r st))) := fun d o hd ne => by rw [upd_ne ne]; exact ((e1.trans e2).trans e3) _ _ (e _ _ hd ne)
      have hp4 : upd H3 p (.dK (bagK l (b + 1) r st)) p = some (.dK (bagK l (b + 1) r st)) := upd_same
      generalize upd H3 p (.dK (bagK l (b + 1) r st)) = H4 at e4 hp4
      refine q_when (et_test (ev_op (ev_var rfl) (ev_op ev_c ev_c (rv_I ⟨by decide, by decide, by decide⟩)) rv_I0)) (fun hz H5 e5 => ?_) (fun hz H5 e5 => ?_)
      · have hz := of_decide_eq_true hz
        rw [h18] at hz
        have hp5 := e5 _ _ hp4
        refine q_asg (v := .int (((z + 3) ^ (3 : Int).toNat + st * (((b + 1 : Nat) : Int) + 1)) % 2147483629)) (ev_op (ev_int (ev_op (ev_op (ev_op (ev_var rfl) ev_c rv_I0) ev_c (rv_I ⟨by decide, by decide, by omega⟩)) (ev_op (ev_dget (ev_var rfl) ev_c hp5 bag_state) (ev_op (ev_dget (ev_var rfl) ev_c hp5 bag_at) ev_c rv_I0) (rv_I (.inl ⟨by omega, by omega⟩))) rv_I0)) ev_c (rv_I (by decide))) fun H6 e6 => ?_
        refine s_ret (ev_op (ev_var rfl) (ev_var rfl) (rv_I (by omega))) fun H7 e7 => ?_
        exact fin H7 _ (b + 1) r st (e4.trans (ExB.of ((e5.trans e6).trans e7))) (e7 _ _ (e6 _ _ hp5)) (by omega) hr' hs0 hs1 (Int.emod_nonneg _ (by omega)) (Int.emod_lt_of_pos _ hm1)
      · have hp5 := e5 _ _ hp4
        refine q_dput (v := .int z) (ev_var rfl) (ev_var rfl) ev_c hp5 (by show 4 < 1000; decide) fun H6 e6 => ?_
        rw [put_rest]
        exact ⟨ns.length - (b + 1), by omega, b + 1, z, _, _, _, rfl, rfl, fun d o hd ne => by rw [upd_ne ne]; exact (e5.trans e6) _ _ (e4 _ _ hd ne), upd_same, by omega, c0⟩
    · have hp1 := e1 _ _ hp'
      refine q_when (et_test (ev_op (ev_dget (ev_var rfl) ev_c hp1 bag_rest) ev_c rv_I0)) (fun _ H2 e2 => ?_) (fun _ H2 e2 => ?_)
      · have hp2 := e2 _ _ hp1
        refine q_asg (v := .int (r % m)) (ev_op (ev_int (ev_dget (ev_var rfl) ev_c hp2 bag_rest)) (ev_var rfl) (rv_I (by omega))) fun H3 e3 => ?_
        have hp3 := e3 _ _ hp2
        refine q_dputS (v := .int (r / m)) (ev_op (ev_dget (ev_var rfl) ev_c hp3 bag_rest) (ev_var rfl) (rv_I ⟨by omega, by omega⟩)) (ev_var rfl) ev_c hp3 (by show 4 < 1000; decide) fun H4 e4 => ?_
        rw [put_rest]
        refine s_ret (v := .int (r % m)) (ev_var rfl) fun H5 e5 => ?_
        exact fin H5 _ b (r / m) st (e.trans (fun d o hd ne => e5 _ _ (by rw [upd_ne ne]; exact (((e1.trans e2).trans e3).trans e4) _ _ hd))) (e5 _ _ upd_same) hb (Int.ediv_nonneg hr' (by omega)) hs0 hs1 (Int.emod_nonneg _ (by omega)) (Int.emod_lt_of_pos _ hm1)
      · have hp2 := e2 _ _ hp1
        refine q_dputS (v := .int ((st * 48271 + 13) % 2147483647)) (ev_op (ev_int (ev_op (ev_op (ev_dget (ev_var rfl) ev_c hp2 bag_state) ev_c (rv_I (.inl ⟨by omega, by omega⟩))) ev_c rv_I0)) ev_c (rv_I (by decide))) (ev_var rfl) ev_c hp2 (by show 4 < 1000; decide) fun H3 e3 => ?_
        rw [put_state]
        have n0 : 0 ≤ (st * 48271 + 13) % 2147483647 := Int.emod_nonneg _ (by decide)
        have n1 : (st * 48271 + 13) % 2147483647 < 2147483647 := Int.emod_lt_of_pos _ (by decide)
        generalize (st * 48271 + 13) % 2147483647 = s2 at n0 n1
        refine s_ret (ev_op (ev_op (ev_int (ev_op (ev_dget (ev_var rfl) ev_c upd_same bag_state) ev_c (rv_I ⟨by decide, by decide, by omega⟩))) ev_c (rv_I (by decide))) (ev_var rfl) (rv_I (by omega))) fun H4 e4 => ?_
        exact fin H4 _ b r s2 (e.trans (fun d o hd ne => e4 _ _ (by rw [upd_ne ne]; exact ((e1.trans e2).trans e3) _ _ hd))) (e4 _ _ upd_same) hb hr' n0 n1 (Int.emod_nonneg _ (by omega)) (Int.emod_lt_of_pos _ hm1)
end
end KO
set_option Elab.async false
set_option linter.all false
set_option maxRecDepth 100000
set_option maxHeartbeats 4000000
namespace KO
open PySem PySem.Spec PyProof.Rows L2 Evl KF
local macro_rules | `(tactic| walk_at "ev") => `(tactic| repeat' (first | exact ev_c | exact ev_var rfl | exact rv_I0 | refine' rv_I ?_ | refine' rv_eq ?_ | refine' rv_ne ?_ | refine' ev_op ?_ ?_ ?_ | exact ea_nil | refine' ea_cons ?_ ?_ | refine' et_test ?_ | refine' et_B ?_ | refine' et_not ?_ | refine' ev_notV ?_))

open PySem
/-! ### the fifteen classes of errors -/
/-- __init__ of an error: its fields are set -/
def spErr (C : Addr) (n : Nat) (fs : List V → List (Str × V)) : Sp := fun vs H Q _ => ∃ (e : Addr) (ws : List V), vs = .ref e :: ws ∧ ws.length = n ∧ H e = some (exo e C none) ∧ ∀ H', ExB e H H' → ExV H' e C (fs ws) → Q .non H'
def f0 : List V → List (Str × V) := fun _ => []
def f1 (f : Str) : List V → List (Str × V) := fun ws => match ws with | [v] => [(f, v)] | _ => []
def f2 : List V → List (Str × V) := fun ws => match ws with | [v, u] => [(("word" : Str), u), (("line" : Str), v)] | _ => []
theorem exB_new {e dx : Addr} {H : Hp} {o u : HO} (hd : H dx = none) : ExB e H (upd (upd H dx o) e u) := fun b v hb ne => by
  rw [upd_ne ne, upd_ne (ne_of_none hb hd)]
  exact hb
/-- what C(..) asks and gives -/
theorem err_made {C : Addr} {n : Nat} {fs : List V → List (Str × V)} {H : Hp} {ws : List V} {Q : VK} {E : XK} (hl : ws.length = n) (k : ∀ e H', Ex H H' → H e = none → ExV H' e C (fs ws) → Q (.ref e) H') :
    ∀ e, H e = none → spErr C n fs (.ref e :: ws) (upd H e (exo e C none)) (fun v H2 => v = .non ∧ Q (.ref e) H2) E := fun e he =>
  ⟨e, ws, rfl, hl, upd_same, fun H' x hv => ⟨rfl, k e H' (fun b o hb => x b o (by rw [upd_ne (ne_of_none hb he)]; exact hb) (ne_of_none hb he)) he hv⟩⟩
section
variable {P : Program} {w : World} {K : PySem.W.Frag} {mg : Str → Option Value} {base : Heap} {a : Ads}
theorem ok_BadModeD_initD (T : Txt w K mg a) : FnOk P w K mg base CX0 1 a.f_BadModeD_initD a.d_BadModeD_initD ["self", "part"] (spErr a.x_BadMode 1 (f1 "part")) := by
  refine T.fn_BadModeD_initD.ok sc_BadModeD_initD (fun vs H Q E h => ?_) (fun cdv A outer s H vs Q E hr h => ?_)
  · obtain ⟨_, ws, rfl, hl, _⟩ := h
    simp [hl]
  · obtain ⟨e, ws, rfl, hl, he, k⟩ := h
    match ws, hl with
    | [v], _ =>
      refine ⟨_, (pss_one (ps_ost (pv 0) (pv 1))), ?_⟩
      exact ⟨v, rfl, .ref e, rfl, e, a.x_BadMode, rfl, T.ox_BadMode, T.npart_BadMode, .inl ⟨he, fun dx hdx ne => k _ (exB_new hdx) (.inr ⟨dx, upd_same, by rw [upd_ne ne, upd_same]; rfl⟩)⟩⟩
theorem ok_BadClauseD_initD (T : Txt w K mg a) : FnOk P w K mg base CX0 1 a.f_BadClauseD_initD a.d_BadClauseD_initD ["self", "at"] (spErr a.x_BadClause 1 (f1 "at")) := by
  refine T.fn_BadClauseD_initD.ok sc_BadClauseD_initD (fun vs H Q E h => ?_) (fun cdv A outer s H vs Q E hr h => ?_)
  · obtain ⟨_, ws, rfl, hl, _⟩ := h
    simp [hl]
  · obtain ⟨e, ws, rfl, hl, he, k⟩ := h
    match ws, hl with
    | [v], _ =>
      refine ⟨_, (pss_one (ps_ost (pv 0) (pv 1))), ?_⟩
      exact ⟨v, rfl, .ref e, rfl, e, a.x_BadClause, rfl, T.ox_BadClause, T.nat_BadClause, .inl ⟨he, fun dx hdx ne => k _ (exB_new hdx) (.inr ⟨dx, upd_same, by rw [upd_ne ne, upd_same]; rfl⟩)⟩⟩
theorem ok_BadNameD_initD (T : Txt w K mg a) : FnOk P w K mg base CX0 1 a.f_BadNameD_initD a.d_BadNameD_initD ["self", "name"] (spErr a.x_BadName 1 (f1 "name")) := by
  refine T.fn_BadNameD_initD.ok sc_BadNameD_initD (fun vs H Q E h => ?_) (fun cdv A outer s H vs Q E hr h => ?_)
  · obtain ⟨_, ws, rfl, hl, _⟩ := h
    simp [hl]
  · obtain ⟨e, ws, rfl, hl, he, k⟩ := h
    match ws, hl with
    | [v], _ =>
      refine ⟨_, (pss_one (ps_ost (pv 0) (pv 1))), ?_⟩
      exact ⟨v, rfl, .ref e, rfl, e, a.x_BadName, rfl, T.ox_BadName, T.nname_BadName, .inl ⟨he, fun dx hdx ne => k _ (exB_new hdx) (.inr ⟨dx, upd_same, by rw [upd_ne ne, upd_same]; rfl⟩)⟩⟩
theorem ok_BadPathD_initD (T : Txt w K mg a) : FnOk P w K mg base CX0 1 a.f_BadPathD_initD a.d_BadPathD_initD ["self", "path"] (spErr a.x_BadPath 1 (f1 "path")) := by
  refine T.fn_BadPathD_initD.ok sc_BadPathD_initD (fun vs H Q E h => ?_) (fun cdv A outer s H vs Q E hr h => ?_)
  · obtain ⟨_, ws, rfl, hl, _⟩ := h
    simp [hl]
  · obtain ⟨e, ws, rfl, hl, he, k⟩ := h
    match ws, hl with
    | [v], _ =>
      refine ⟨_, (pss_one (ps_ost (pv 0) (pv 1))), ?_⟩
      exact ⟨v, rfl, .ref e, rfl, e, a.x_BadPath, rfl, T.ox_BadPath, T.npath_BadPath, .inl ⟨he, fun dx hdx ne => k _ (exB_new hdx) (.inr ⟨dx, upd_same, by rw [upd_ne ne, upd_same]; rfl⟩)⟩⟩
theorem ok_BadUserD_initD (T : Txt w K mg a) : FnOk P w K mg base CX0 1 a.f_BadUserD_initD a.d_BadUserD_initD ["self", "part"] (spErr a.x_BadUser 1 (f1 "part")) := by
  refine T.fn_BadUserD_initD.ok sc_BadUserD_initD (fun vs H Q E h => ?_) (fun cdv A outer s H vs Q E hr h => ?_)
  · obtain ⟨_, ws, rfl, hl, _⟩ := h
    simp [hl]
  · obtain ⟨e, ws, rfl, hl, he, k⟩ := h
    match ws, hl with
    | [v], _ =>
      refine ⟨_, (pss_one (ps_ost (pv 0) (pv 1))), ?_⟩
      exact ⟨v, rfl, .ref e, rfl, e, a.x_BadUser, rfl, T.ox_BadUser, T.npart_BadUser, .inl ⟨he, fun dx hdx ne => k _ (exB_new hdx) (.inr ⟨dx, upd_same, by rw [upd_ne ne, upd_same]; rfl⟩)⟩⟩
theorem ok_BadCommandD_initD (T : Txt w K mg a) : FnOk P w K mg base CX0 1 a.f_BadCommandD_initD a.d_BadCommandD_initD ["self", "part"] (spErr a.x_BadCommand 1 (f1 "part")) := by
  refine T.fn_BadCommandD_initD.ok sc_BadCommandD_initD (fun vs H Q E h => ?_) (fun cdv A outer s H vs Q E hr h => ?_)
  · obtain ⟨_, ws, rfl, hl, _⟩ := h
    simp [hl]
  · obtain ⟨e, ws, rfl, hl, he, k⟩ := h
    match ws, hl with
    | [v], _ =>
      refine ⟨_, (pss_one (ps_ost (pv 0) (pv 1))), ?_⟩
      exact ⟨v, rfl, .ref e, rfl, e, a.x_BadCommand, rfl, T.ox_BadCommand, T.npart_BadCommand, .inl ⟨he, fun dx hdx ne => k _ (exB_new hdx) (.inr ⟨dx, upd_same, by rw [upd_ne ne, upd_same]; rfl⟩)⟩⟩
theorem ok_BadKindD_initD (T : Txt w K mg a) : FnOk P w K mg base CX0 1 a.f_BadKindD_initD a.d_BadKindD_initD ["self", "at"] (spErr a.x_BadKind 1 (f1 "at")) := by
  refine T.fn_BadKindD_initD.ok sc_BadKindD_initD (fun vs H Q E h => ?_) (fun cdv A outer s H vs Q E hr h => ?_)
  · obtain ⟨_, ws, rfl, hl, _⟩ := h
    simp [hl]
  · obtain ⟨e, ws, rfl, hl, he, k⟩ := h
    match ws, hl with
    | [v], _ =>
      refine ⟨_, (pss_one (ps_ost (pv 0) (pv 1))), ?_⟩
      exact ⟨v, rfl, .ref e, rfl, e, a.x_BadKind, rfl, T.ox_BadKind, T.nat_BadKind, .inl ⟨he, fun dx hdx ne => k _ (exB_new hdx) (.inr ⟨dx, upd_same, by rw [upd_ne ne, upd_same]; rfl⟩)⟩⟩
theorem ok_BadStandD_initD (T : Txt w K mg a) : FnOk P w K mg base CX0 1 a.f_BadStandD_initD a.d_BadStandD_initD ["self", "index"] (spErr a.x_BadStand 1 (f1 "index")) := by
  refine T.fn_BadStandD_initD.ok sc_BadStandD_initD (fun vs H Q E h => ?_) (fun cdv A outer s H vs Q E hr h => ?_)
  · obtain ⟨_, ws, rfl, hl, _⟩ := h
    simp [hl]
  · obtain ⟨e, ws, rfl, hl, he, k⟩ := h
    match ws, hl with
    | [v], _ =>
      refine ⟨_, (pss_one (ps_ost (pv 0) (pv 1))), ?_⟩
      exact ⟨v, rfl, .ref e, rfl, e, a.x_BadStand, rfl, T.ox_BadStand, T.nindex_BadStand, .inl ⟨he, fun dx hdx ne => k _ (exB_new hdx) (.inr ⟨dx, upd_same, by rw [upd_ne ne, upd_same]; rfl⟩)⟩⟩
theorem ok_BadBeatD_initD (T : Txt w K mg a) : FnOk P w K mg base CX0 1 a.f_BadBeatD_initD a.d_BadBeatD_initD ["self", "part"] (spErr a.x_BadBeat 1 (f1 "part")) := by
  refine T.fn_BadBeatD_initD.ok sc_BadBeatD_initD (fun vs H Q E h => ?_) (fun cdv A outer s H vs Q E hr h => ?_)
  · obtain ⟨_, ws, rfl, hl, _⟩ := h
    simp [hl]
  · obtain ⟨e, ws, rfl, hl, he, k⟩ := h
    match ws, hl with
    | [v], _ =>
      refine ⟨_, (pss_one (ps_ost (pv 0) (pv 1))), ?_⟩
      exact ⟨v, rfl, .ref e, rfl, e, a.x_BadBeat, rfl, T.ox_BadBeat, T.npart_BadBeat, .inl ⟨he, fun dx hdx ne => k _ (exB_new hdx) (.inr ⟨dx, upd_same, by rw [upd_ne ne, upd_same]; rfl⟩)⟩⟩
theorem ok_BadTextD_initD (T : Txt w K mg a) : FnOk P w K mg base CX0 1 a.f_BadTextD_initD a.d_BadTextD_initD ["self", "line", "word"] (spErr a.x_BadText 2 f2) := by
  refine T.fn_BadTextD_initD.ok sc_BadTextD_initD (fun vs H Q E h => ?_) (fun cdv A outer s H vs Q E hr h => ?_)
  · obtain ⟨_, ws, rfl, hl, _⟩ := h
    simp [hl]
  · obtain ⟨e, ws, rfl, hl, he, k⟩ := h
    match ws, hl with
    | [v, u], _ =>
      refine ⟨_, (pss_cons (ps_ost (pv 0) (pv 1))
    (pss_one (ps_ost (pv 0) (pv 2)))), ?_⟩
      refine ⟨v, rfl, .ref e, rfl, e, a.x_BadText, rfl, T.ox_BadText, T.nline_BadText, .inl ⟨he, fun dx hdx ne => ?_⟩⟩
      refine ⟨u, rfl, .ref e, rfl, e, a.x_BadText, rfl, T.ox_BadText, T.nword_BadText, .inr ⟨dx, [("line", v)], upd_same, by rw [upd_ne ne, upd_same], by show 1 ≤ 900; decide, k _ (fun b o hb nb => ?_) (.inr ⟨dx, by rw [upd_ne ne.symm, upd_same], by rw [upd_same]; rfl⟩)⟩⟩
      rw [upd_ne (ne_of_none hb hdx)]
      exact exB_new hdx b o hb nb
theorem ok_NoEntryD_initD (T : Txt w K mg a) : FnOk P w K mg base CX0 1 a.f_NoEntryD_initD a.d_NoEntryD_initD ["self", "path"] (spErr a.x_NoEntry 1 (f1 "path")) := by
  refine T.fn_NoEntryD_initD.ok sc_NoEntryD_initD (fun vs H Q E h => ?_) (fun cdv A outer s H vs Q E hr h => ?_)
  · obtain ⟨_, ws, rfl, hl, _⟩ := h
    simp [hl]
  · obtain ⟨e, ws, rfl, hl, he, k⟩ := h
    match ws, hl with
    | [v], _ =>
      refine ⟨_, (pss_one (ps_ost (pv 0) (pv 1))), ?_⟩
      exact ⟨v, rfl, .ref e, rfl, e, a.x_NoEntry, rfl, T.ox_NoEntry, T.npath_NoEntry, .inl ⟨he, fun dx hdx ne => k _ (exB_new hdx) (.inr ⟨dx, upd_same, by rw [upd_ne ne, upd_same]; rfl⟩)⟩⟩
theorem ok_NoCommandD_initD (T : Txt w K mg a) : FnOk P w K mg base CX0 1 a.f_NoCommandD_initD a.d_NoCommandD_initD ["self", "index"] (spErr a.x_NoCommand 1 (f1 "index")) := by
  refine T.fn_NoCommandD_initD.ok sc_NoCommandD_initD (fun vs H Q E h => ?_) (fun cdv A outer s H vs Q E hr h => ?_)
  · obtain ⟨_, ws, rfl, hl, _⟩ := h
    simp [hl]
  · obtain ⟨e, ws, rfl, hl, he, k⟩ := h
    match ws, hl with
    | [v], _ =>
      refine ⟨_, (pss_one (ps_ost (pv 0) (pv 1))), ?_⟩
      exact ⟨v, rfl, .ref e, rfl, e, a.x_NoCommand, rfl, T.ox_NoCommand, T.nindex_NoCommand, .inl ⟨he, fun dx hdx ne => k _ (exB_new hdx) (.inr ⟨dx, upd_same, by rw [upd_ne ne, upd_same]; rfl⟩)⟩⟩
theorem ok_NoStandD_initD (T : Txt w K mg a) : FnOk P w K mg base CX0 1 a.f_NoStandD_initD a.d_NoStandD_initD ["self", "joint"] (spErr a.x_NoStand 1 (f1 "joint")) := by
  refine T.fn_NoStandD_initD.ok sc_NoStandD_initD (fun vs H Q E h => ?_) (fun cdv A outer s H vs Q E hr h => ?_)
  · obtain ⟨_, ws, rfl, hl, _⟩ := h
    simp [hl]
  · obtain ⟨e, ws, rfl, hl, he, k⟩ := h
    match ws, hl with
    | [v], _ =>
      refine ⟨_, (pss_one (ps_ost (pv 0) (pv 1))), ?_⟩
      exact ⟨v, rfl, .ref e, rfl, e, a.x_NoStand, rfl, T.ox_NoStand, T.njoint_NoStand, .inl ⟨he, fun dx hdx ne => k _ (exB_new hdx) (.inr ⟨dx, upd_same, by rw [upd_ne ne, upd_same]; rfl⟩)⟩⟩
theorem ok_TooManyD_initD (T : Txt w K mg a) : FnOk P w K mg base CX0 1 a.f_TooManyD_initD a.d_TooManyD_initD ["self", "most"] (spErr a.x_TooMany 1 (f1 "most")) := by
  refine T.fn_TooManyD_initD.ok sc_TooManyD_initD (fun vs H Q E h => ?_) (fun cdv A outer s H vs Q E hr h => ?_)
  · obtain ⟨_, ws, rfl, hl, _⟩ := h
    simp [hl]
  · obtain ⟨e, ws, rfl, hl, he, k⟩ := h
    match ws, hl with
    | [v], _ =>
      refine ⟨_, (pss_one (ps_ost (pv 0) (pv 1))), ?_⟩
      exact ⟨v, rfl, .ref e, rfl, e, a.x_TooMany, rfl, T.ox_TooMany, T.nmost_TooMany, .inl ⟨he, fun dx hdx ne => k _ (exB_new hdx) (.inr ⟨dx, upd_same, by rw [upd_ne ne, upd_same]; rfl⟩)⟩⟩
theorem ok_NoKindD_initD (T : Txt w K mg a) : FnOk P w K mg base CX0 1 a.f_NoKindD_initD a.d_NoKindD_initD ["self"] (spErr a.x_NoKind 0 f0) := by
  refine T.fn_NoKindD_initD.ok sc_NoKindD_initD (fun vs H Q E h => ?_) (fun cdv A outer s H vs Q E hr h => ?_)
  · obtain ⟨_, ws, rfl, hl, _⟩ := h
    simp [hl]
  · obtain ⟨e, ws, rfl, hl, he, k⟩ := h
    refine ⟨_, (pss_one ps_pass), ?_⟩
    exact k H (fun _ _ h _ => h) (.inl ⟨rfl, he⟩)
end
end KO
set_option Elab.async false
set_option linter.all false
set_option maxRecDepth 100000
set_option maxHeartbeats 4000000
namespace KO
open PySem PySem.Spec PyProof.Rows L2 Evl KF
local macro_rules | `(tactic| walk_at "ev") => `(tactic| repeat' (first | exact ev_c | exact ev_var rfl | exact rv_I0 | refine' rv_I ?_ | refine' rv_eq ?_ | refine' rv_ne ?_ | refine' ev_op ?_ ?_ ?_ | exact ea_nil | refine' ea_cons ?_ ?_ | refine' et_test ?_ | refine' et_B ?_ | refine' et_not ?_ | refine' ev_notV ?_))

open PySem LamX
/-! ### lists of lambdas -/
abbrev qM : Str := "_law_made" ++ ".<locals>." ++ "<lambda>"
abbrev qN : Str := "_law_named" ++ ".<locals>." ++ "<lambda>"
abbrev tabsT (a : Ads) : List (Addr × Str) := [(a.PM, qM), (a.PN, qN)]
theorem tabs_uM {w : World} {K : PySem.W.Frag} {mg : Str → Option Value} {a : Ads} (T : Txt w K mg a) : ∀ p ∈ tabsT a, p.1 = a.PM → p.2 = qM := fun p m h => by
  rcases List.mem_cons.mp m with rfl | m
  · rfl
  · rw [List.mem_singleton.mp m] at h
    exact absurd h.symm T.ne_P
theorem tabs_uN {w : World} {K : PySem.W.Frag} {mg : Str → Option Value} {a : Ads} (T : Txt w K mg a) : ∀ p ∈ tabsT a, p.1 = a.PN → p.2 = qN := fun p m h => by
  rcases List.mem_cons.mp m with rfl | m
  · exact absurd h T.ne_P
  · rw [List.mem_singleton.mp m]
/-- all but the tables and what stands at l stay -/
def ExL (l : Addr) (H H' : Hp) : Prop := ∀ b o, H b = some o → b ≠ l → (∀ ps, o ≠ .tbl ps) → H' b = some o
theorem acts_move {X : Cx} {k : Nat} {f l : Addr} {t : XK → TE} {H H' : Hp} {xs : List V} (h : Acts X k f t H) (hl : H l = some (.lst xs)) (e : ExL l H H') : Acts X k f t H' := by
  obtain ⟨ps, b, sc, cd, h1, h2, h3, h4, h5⟩ := h
  have n1 : f ≠ l := fun z => by
    rw [z, hl] at h3
    unfold LamO at h3
    cases h3
  have n2 : cd ≠ l := fun z => by
    rw [z, hl] at h4
    unfold CodeO at h4
    cases h4
  exact ⟨ps, b, sc, cd, h1, h2, e _ _ h3 n1 (fun ps z => by unfold LamO at z; cases z), e _ _ h4 n2 (fun ps z => by unfold CodeO at z; cases z), h5⟩
theorem tab_put {H : Hp} {T : List (Addr × Str)} {l : Addr} {xs ys : List V} (t : Tabs T H) (hl : H l = some (.lst xs)) : Tabs T (upd H l (.lst ys)) := fun q hq => by
  obtain ⟨ps, h1, h2, h3⟩ := t q hq
  have n : q.1 ≠ l := fun z => by
    rw [z, hl] at h1
    cases h1
  refine ⟨ps, by rw [upd_ne n]; exact h1, h2, fun pos cv hc => ?_⟩
  obtain ⟨c, e1, e2⟩ := h3 pos cv hc
  refine ⟨c, e1, ?_⟩
  have n2 : c ≠ l := fun z => by
    rw [z, hl] at e2
    unfold CodeO at e2
    cases e2
  rw [upd_ne n2]
  exact e2
section
variable {X : Cx} {K : PySem.W.Frag} {T : List (Addr × Str)} {σ : L2.St} {H : Hp} {D : Ends} {tz : TS} {i k : Nat} {t : XK → TE}
/-- a list of lambdas at l -/
structure Lams (X : Cx) (T : List (Addr × Str)) (k : Nat) (H0 : Hp) (l : Addr) (L : List (Addr × (XK → TE))) (H : Hp) : Prop where
  tabs : Tabs T H
  here : H l = some (.lst (L.map fun p => V.ref p.1))
  acts : ∀ p ∈ L, Acts X k p.1 p.2 H
  new : ∀ b o, H0 b = some o → (∀ ps, o ≠ .tbl ps) → b ≠ l
  ext : ExL l H0 H
theorem q_lam1 (tab : Tabs T H) (h : ∀ l f H', Lams X T k H l [(f, t)] H' → tz D (σ.set i (some (.ref l))) H') : tSeq (tAsg (tLst (tCons (tLamV X T k t) tNil)) (gName i)) tz D σ H := by
  refine ⟨tab, fun f H1 e1 t1 nf ac => ⟨by show 1 ≤ sizeLine; rw [sizeLine_eq]; omega, fun p hp => ?_⟩⟩
  have hp : H1 p = none := hp
  have en : Ex H1 (upd H1 p (.lst [.ref f])) := Ex.new hp
  refine h p f _ ⟨LamX.Tabs.ext t1 en, upd_same, fun q hq => ?_, fun b o hb nt z => ?_, fun b o hb ne nt => en _ _ (e1 _ _ hb nt)⟩
  · rw [List.mem_singleton.mp hq]
    exact ac.mono (ExtN.of en)
  · rw [z] at hb
    rw [e1 _ _ hb nt] at hp
    cases hp
theorem q_lamN {L : List (Addr × (XK → TE))} {H0 : Hp} {l : Addr} (hi : σ[i]? = some (some (.ref l))) (hL : L.length < 900) (ls : Lams X T k H0 l L H) (h : ∀ f H', Lams X T k H0 l (L ++ [(f, t)]) H' → tz D σ H') : tSeq (tDrop (tBM K "list" rAppend (tVar i) (tCons (tLamV X T k t) tNil))) tz D σ H := by
  refine ⟨.ref l, hi, Or.inl ⟨rfl, _, sq_of ls.here⟩, ls.tabs, fun f H1 e1 t1 nf ac => ?_⟩
  have hl := e1 _ _ ls.here (fun ps z => by cases z)
  refine ⟨l, _, .ref f, rfl, rfl, hl, by rw [List.length_map, sizeLine_eq]; omega, h f _ ⟨tab_put t1 hl, by rw [upd_same, List.map_append]; rfl, fun q hq => ?_, ls.new, fun b o hb ne nt => ?_⟩⟩
  · have ex : ExL l H1 (upd H1 l (.lst (L.map (fun p => V.ref p.1) ++ [.ref f]))) := fun b o hb ne nt => by
      rw [upd_ne ne]
      exact hb
    rcases List.mem_append.mp hq with hq | hq
    · exact acts_move ((ls.acts q hq).mono e1) hl ex
    · rw [List.mem_singleton.mp hq]
      exact acts_move ac hl ex
  · rw [upd_ne ne]
    exact e1 _ _ (ls.ext _ _ hb ne nt) nt
/-- x[i]() -/
theorem s_retLam {L : List (Addr × (XK → TE))} {H0 : Hp} {l : Addr} {j w : Nat} {f : Addr} {E : XK} (hi : σ[i]? = some (some (.ref l))) (hj : σ[j]? = some (some (.int (w : Nat)))) (ls : Lams X T k H0 l L H) (hw : L[w]? = some (f, t)) (h : t E σ H D.rt) :
    tRet (fun σ H Q => (tOp (rIxL K) (tVar i) (tVar j)) σ H fun x H1 => ∃ (f : Addr) (t : XK → TE), x = .ref f ∧ Acts X k f t H1 ∧ t E σ H1 Q) D σ H :=
  ⟨.ref l, hi, .int (w : Nat), hj, l, _, (w : Nat), .ref f, rfl, rfl, sq_of ls.here, atI_nat (by rw [List.getElem?_map, hw]; rfl), f, t, rfl, ls.acts _ (List.mem_of_getElem? hw), h⟩
theorem Lams.extN {L : List (Addr × (XK → TE))} {H0 : Hp} {l : Addr} (ls : Lams X T k H0 l L H) : ExtN H0 H := fun b o hb nt => ls.ext b o hb (ls.new b o hb nt) nt
end
/-! ### errors made out of a list of lambdas -/
def gApp {α : Type} (us ws : List α) : List α := us ++ ws
def gRev {α : Type} (us ws : List α) : List α := us ++ ws.reverse
theorem vals_rev {xs : List V} {us : List Value} (h : Vals xs us) : Vals xs.reverse us.reverse := by
  induction h with
  | nil => exact .nil
  | cons a t ih =>
    rw [List.reverse_cons, List.reverse_cons]
    exact Vals.append ih (.cons a .nil)
theorem kb_BadMode {w : World} {K : PySem.W.Frag} {mg : Str → Option Value} {a : Ads} (T : Txt w K mg a) : KBn K a.d_BadModeD_initD ["self", "part"] 1 ["part"] gApp gApp where
  to := fun s us ws X l1 l2 => by
    obtain ⟨oc, od, kV, doc, pm, an, cdv, ct, osl, e, lk, hcd⟩ := T.fn_BadModeD_initD.ex
    rw [e]
    match us, ws, l1, l2 with
    | [x], [f], _, _ => exact .of_eq rfl
  rel := fun r1 r2 => Vals.append r1 r2
theorem kb_BadClause {w : World} {K : PySem.W.Frag} {mg : Str → Option Value} {a : Ads} (T : Txt w K mg a) : KBn K a.d_BadClauseD_initD ["self", "at"] 1 ["at"] gApp gApp where
  to := fun s us ws X l1 l2 => by
    obtain ⟨oc, od, kV, doc, pm, an, cdv, ct, osl, e, lk, hcd⟩ := T.fn_BadClauseD_initD.ex
    rw [e]
    match us, ws, l1, l2 with
    | [x], [f], _, _ => exact .of_eq rfl
  rel := fun r1 r2 => Vals.append r1 r2
theorem kb_BadName {w : World} {K : PySem.W.Frag} {mg : Str → Option Value} {a : Ads} (T : Txt w K mg a) : KBn K a.d_BadNameD_initD ["self", "name"] 1 ["name"] gApp gApp where
  to := fun s us ws X l1 l2 => by
    obtain ⟨oc, od, kV, doc, pm, an, cdv, ct, osl, e, lk, hcd⟩ := T.fn_BadNameD_initD.ex
    rw [e]
    match us, ws, l1, l2 with
    | [x], [f], _, _ => exact .of_eq rfl
  rel := fun r1 r2 => Vals.append r1 r2
theorem kb_BadPath {w : World} {K : PySem.W.Frag} {mg : Str → Option Value} {a : Ads} (T : Txt w K mg a) : KBn K a.d_BadPathD_initD ["self", "path"] 1 ["path"] gApp gApp where
  to := fun s us ws X l1 l2 => by
    obtain ⟨oc, od, kV, doc, pm, an, cdv, ct, osl, e, lk, hcd⟩ := T.fn_BadPathD_initD.ex
    rw [e]
    match us, ws, l1, l2 with
    | [x], [f], _, _ => exact .of_eq rfl
  rel := fun r1 r2 => Vals.append r1 r2
theorem kb_BadUser {w : World} {K : PySem.W.Frag} {mg : Str → Option Value} {a : Ads} (T : Txt w K mg a) : KBn K a.d_BadUserD_initD ["self", "part"] 1 ["part"] gApp gApp where
  to := fun s us ws X l1 l2 => by
    obtain ⟨oc, od, kV, doc, pm, an, cdv, ct, osl, e, lk, hcd⟩ := T.fn_BadUserD_initD.ex
    rw [e]
    match us, ws, l1, l2 with
    | [x], [f], _, _ => exact .of_eq rfl
  rel := fun r1 r2 => Vals.append r1 r2
theorem kb_BadCommand {w : World} {K : PySem.W.Frag} {mg : Str → Option Value} {a : Ads} (T : Txt w K mg a) : KBn K a.d_BadCommandD_initD ["self", "part"] 1 ["part"] gApp gApp where
  to := fun s us ws X l1 l2 => by
    obtain ⟨oc, od, kV, doc, pm, an, cdv, ct, osl, e, lk, hcd⟩ := T.fn_BadCommandD_initD.ex
    rw [e]
    match us, ws, l1, l2 with
    | [x], [f], _, _ => exact .of_eq rfl
  rel := fun r1 r2 => Vals.append r1 r2
theorem kb_BadKind {w : World} {K : PySem.W.Frag} {mg : Str → Option Value} {a : Ads} (T : Txt w K mg a) : KBn K a.d_BadKindD_initD ["self", "at"] 1 ["at"] gApp gApp where
  to := fun s us ws X l1 l2 => by
    obtain ⟨oc, od, kV, doc, pm, an, cdv, ct, osl, e, lk, hcd⟩ := T.fn_BadKindD_initD.ex
    rw [e]
    match us, ws, l1, l2 with
    | [x], [f], _, _ => exact .of_eq rfl
  rel := fun r1 r2 => Vals.append r1 r2
theorem kb_BadStand {w : World} {K : PySem.W.Frag} {mg : Str → Option Value} {a : Ads} (T : Txt w K mg a) : KBn K a.d_BadStandD_initD ["self", "index"] 1 ["index"] gApp gApp where
  to := fun s us ws X l1 l2 => by
    obtain ⟨oc, od, kV, doc, pm, an, cdv, ct, osl, e, lk, hcd⟩ := T.fn_BadStandD_initD.ex
    rw [e]
    match us, ws, l1, l2 with
    | [x], [f], _, _ => exact .of_eq rfl
  rel := fun r1 r2 => Vals.append r1 r2
theorem kb_BadBeat {w : World} {K : PySem.W.Frag} {mg : Str → Option Value} {a : Ads} (T : Txt w K mg a) : KBn K a.d_BadBeatD_initD ["self", "part"] 1 ["part"] gApp gApp where
  to := fun s us ws X l1 l2 => by
    obtain ⟨oc, od, kV, doc, pm, an, cdv, ct, osl, e, lk, hcd⟩ := T.fn_BadBeatD_initD.ex
    rw [e]
    match us, ws, l1, l2 with
    | [x], [f], _, _ => exact .of_eq rfl
  rel := fun r1 r2 => Vals.append r1 r2
theorem kb_BadText {w : World} {K : PySem.W.Frag} {mg : Str → Option Value} {a : Ads} (T : Txt w K mg a) : KBn K a.d_BadTextD_initD ["self", "line", "word"] 1 ["word", "line"] gRev gRev where
  to := fun s us ws X l1 l2 => by
    obtain ⟨oc, od, kV, doc, pm, an, cdv, ct, osl, e, lk, hcd⟩ := T.fn_BadTextD_initD.ex
    rw [e]
    match us, ws, l1, l2 with
    | [x], [f, g], _, _ => exact .of_eq rfl
  rel := fun r1 r2 => Vals.append r1 (vals_rev r2)
theorem kb_NoEntry {w : World} {K : PySem.W.Frag} {mg : Str → Option Value} {a : Ads} (T : Txt w K mg a) : KBn K a.d_NoEntryD_initD ["self", "path"] 1 ["path"] gApp gApp where
  to := fun s us ws X l1 l2 => by
    obtain ⟨oc, od, kV, doc, pm, an, cdv, ct, osl, e, lk, hcd⟩ := T.fn_NoEntryD_initD.ex
    rw [e]
    match us, ws, l1, l2 with
    | [x], [f], _, _ => exact .of_eq rfl
  rel := fun r1 r2 => Vals.append r1 r2
theorem kb_NoCommand {w : World} {K : PySem.W.Frag} {mg : Str → Option Value} {a : Ads} (T : Txt w K mg a) : KBn K a.d_NoCommandD_initD ["self", "index"] 1 ["index"] gApp gApp where
  to := fun s us ws X l1 l2 => by
    obtain ⟨oc, od, kV, doc, pm, an, cdv, ct, osl, e, lk, hcd⟩ := T.fn_NoCommandD_initD.ex
    rw [e]
    match us, ws, l1, l2 with
    | [x], [f], _, _ => exact .of_eq rfl
  rel := fun r1 r2 => Vals.append r1 r2
theorem kb_NoStand {w : World} {K : PySem.W.Frag} {mg : Str → Option Value} {a : Ads} (T : Txt w K mg a) : KBn K a.d_NoStandD_initD ["self", "joint"] 1 ["joint"] gApp gApp where
  to := fun s us ws X l1 l2 => by
    obtain ⟨oc, od, kV, doc, pm, an, cdv, ct, osl, e, lk, hcd⟩ := T.fn_NoStandD_initD.ex
    rw [e]
    match us, ws, l1, l2 with
    | [x], [f], _, _ => exact .of_eq rfl
  rel := fun r1 r2 => Vals.append r1 r2
theorem kb_TooMany {w : World} {K : PySem.W.Frag} {mg : Str → Option Value} {a : Ads} (T : Txt w K mg a) : KBn K a.d_TooManyD_initD ["self", "most"] 1 ["most"] gApp gApp where
  to := fun s us ws X l1 l2 => by
    obtain ⟨oc, od, kV, doc, pm, an, cdv, ct, osl, e, lk, hcd⟩ := T.fn_TooManyD_initD.ex
    rw [e]
    match us, ws, l1, l2 with
    | [x], [f], _, _ => exact .of_eq rfl
  rel := fun r1 r2 => Vals.append r1 r2
def fsL (x y : V) : List (List (Str × V)) := [[(("part" : Str), x)], [(("at" : Str), x)], [(("name" : Str), x)], [(("path" : Str), x)], [(("part" : Str), x)], [(("part" : Str), x)], [(("at" : Str), x)], [(("index" : Str), x)], [(("part" : Str), x)], [(("word" : Str), y), (("line" : Str), x)], [(("path" : Str), x)], [(("index" : Str), x)], [(("joint" : Str), x)], [(("most" : Str), x)], []]
def spMade (a : Ads) : Sp := fun vs H Q _ => ∃ (n : Nat) (x y : V) (C : Addr) (fs : List (Str × V)), vs = [.int n, x, y] ∧ a.all[n]? = some C ∧ (fsL x y)[n]? = some fs ∧ n < 15 ∧ Tabs (tabsT a) H ∧ ∀ e H', ExtN H H' → Tabs (tabsT a) H' → ExV H' e C fs → Q (.ref e) H'
open KD
section
variable {P : Program} {w : World} {K : PySem.W.Frag} {mg : Str → Option Value} {base : Heap} {a : Ads}
theorem ok__law_made (T : Txt w K mg a) (TBM : TabB base mg a.cM a.PM) : FnG P w K mg base 6 a.f__law_made a.d__law_made ["_law_which", "_law_one", "_law_other"] (spMade a) := by
  obtain ⟨oc, od, kV, doc, pm, an, ct, osl, eM, lkM⟩ := T.at__law_made
  rw [eM] at lkM ⊢
  have G_BadMode : FnOk P w K mg base CX0 3 _ _ _ _ := (ok_BadModeD_initD T).mono (by decide)
  have G_BadClause : FnOk P w K mg base CX0 3 _ _ _ _ := (ok_BadClauseD_initD T).mono (by decide)
  have G_BadName : FnOk P w K mg base CX0 3 _ _ _ _ := (ok_BadNameD_initD T).mono (by decide)
  have G_BadPath : FnOk P w K mg base CX0 3 _ _ _ _ := (ok_BadPathD_initD T).mono (by decide)
  have G_BadUser : FnOk P w K mg base CX0 3 _ _ _ _ := (ok_BadUserD_initD T).mono (by decide)
  have G_BadCommand : FnOk P w K mg base CX0 3 _ _ _ _ := (ok_BadCommandD_initD T).mono (by decide)
  have G_BadKind : FnOk P w K mg base CX0 3 _ _ _ _ := (ok_BadKindD_initD T).mono (by decide)
  have G_BadStand : FnOk P w K mg base CX0 3 _ _ _ _ := (ok_BadStandD_initD T).mono (by decide)
  have G_BadBeat : FnOk P w K mg base CX0 3 _ _ _ _ := (ok_BadBeatD_initD T).mono (by decide)
  have G_BadText : FnOk P w K mg base CX0 3 _ _ _ _ := (ok_BadTextD_initD T).mono (by decide)
  have G_NoEntry : FnOk P w K mg base CX0 3 _ _ _ _ := (ok_NoEntryD_initD T).mono (by decide)
  have G_NoCommand : FnOk P w K mg base CX0 3 _ _ _ _ := (ok_NoCommandD_initD T).mono (by decide)
  have G_NoStand : FnOk P w K mg base CX0 3 _ _ _ _ := (ok_NoStandD_initD T).mono (by decide)
  have G_TooMany : FnOk P w K mg base CX0 3 _ _ _ _ := (ok_TooManyD_initD T).mono (by decide)
  have G_NoKind : FnOk P w K mg base CX0 3 _ _ _ _ := (ok_NoKindD_initD T).mono (by decide)
  refine fnG_of lkM T.co__law_made sc__law_made (fun vs H Q E h => ?_) fun A outer s H vs Q E gd hr h => ?_
  · obtain ⟨_, _, _, _, _, rfl, _⟩ := h
    rfl
  · obtain ⟨n, x, y, C, fs, rfl, hC, hf, hn, tab, k⟩ := h
    have hrc : Room 5 _ := hr
    refine ⟨_, (show PSs (cxOf CX0 P w K mg base n__law_made "_law_made" (defScope s__law_made) a.f__law_made (.ref a.cM) A outer s H E).nox (defBody s__law_made) _ from (pss_cons (ps_set (i := 3) sc__law_made.nd rfl (Or.inl rfl) (pe_lst (pa_cons (pe_lamV (T := tabsT a) TBM rfl (List.mem_cons_self ..) (tabs_uM T) (k := 4) (LamX.lamS_by (show LamX.lamSB (defScope s__law_made) _ = true by decide +kernel)) rfl (fun _ _ _ _ _ => rfl) (fun _ _ _ _ _ _ _ hr2 => (pe_exc T.ox_BadMode T.ic_BadMode T.it_BadMode G_BadMode (show Room (3 + 1) _ from hr2) (bd_BadModeD_initD T) pass0 rfl T.mg_BadMode (pa_cons (pv 1) pa_nil)))) pa_nil)))
    (pss_cons (ps_expr (pe_bm PySem.F.plainAttrs_list PySem.F.slot_list_append PySem.F.type_list_append mt_append (pv 3) (pa_cons (pe_lamV (T := tabsT a) TBM rfl (List.mem_cons_self ..) (tabs_uM T) (k := 4) (LamX.lamS_by (show LamX.lamSB (defScope s__law_made) _ = true by decide +kernel)) rfl (fun _ _ _ _ _ => rfl) (fun _ _ _ _ _ _ _ hr2 => (pe_exc T.ox_BadClause T.ic_BadClause T.it_BadClause G_BadClause (show Room (3 + 1) _ from hr2) (bd_BadClauseD_initD T) pass0 rfl T.mg_BadClause (pa_cons (pv 1) pa_nil)))) pa_nil)))
    (pss_cons (ps_expr (pe_bm PySem.F.plainAttrs_list PySem.F.slot_list_append PySem.F.type_list_append mt_append (pv 3) (pa_cons (pe_lamV (T := tabsT a) TBM rfl (List.mem_cons_self ..) (tabs_uM T) (k := 4) (LamX.lamS_by (show LamX.lamSB (defScope s__law_made) _ = true by decide +kernel)) rfl (fun _ _ _ _ _ => rfl) (fun _ _ _ _ _ _ _ hr2 => (pe_exc T.ox_BadName T.ic_BadName T.it_BadName G_BadName (show Room (3 + 1) _ from hr2) (bd_BadNameD_initD T) pass0 rfl T.mg_BadName (pa_cons (pv 1) pa_nil)))) pa_nil)))
    (pss_cons (ps_expr (pe_bm PySem.F.plainAttrs_list PySem.F.slot_list_append PySem.F.type_list_append mt_append (pv 3) (pa_cons (pe_lamV (T := tabsT a) TBM rfl (List.mem_cons_self ..) (tabs_uM T) (k := 4) (LamX.lamS_by (show LamX.lamSB (defScope s__law_made) _ = true by decide +kernel)) rfl (fun _ _ _ _ _ => rfl) (fun _ _ _ _ _ _ _ hr2 => (pe_exc T.ox_BadPath T.ic_BadPath T.it_BadPath G_BadPath (show Room (3 + 1) _ from hr2) (bd_BadPathD_initD T) pass0 rfl T.mg_BadPath (pa_cons (pv 1) pa_nil)))) pa_nil)))
    (pss_cons (ps_expr (pe_bm PySem.F.plainAttrs_list PySem.F.slot_list_append PySem.F.type_list_append mt_append (pv 3) (pa_cons (pe_lamV (T := tabsT a) TBM rfl (List.mem_cons_self ..) (tabs_uM T) (k := 4) (LamX.lamS_by (show LamX.lamSB (defScope s__law_made) _ = true by decide +kernel)) rfl (fun _ _ _ _ _ => rfl) (fun _ _ _ _ _ _ _ hr2 => (pe_exc T.ox_BadUser T.ic_BadUser T.it_BadUser G_BadUser (show Room (3 + 1) _ from hr2) (bd_BadUserD_initD T) pass0 rfl T.mg_BadUser (pa_cons (pv 1) pa_nil)))) pa_nil)))
    (pss_cons (ps_expr (pe_bm PySem.F.plainAttrs_list PySem.F.slot_list_append PySem.F.type_list_append mt_append (pv 3) (pa_cons (pe_lamV (T := tabsT a) TBM rfl (List.mem_cons_self ..) (tabs_uM T) (k := 4) (LamX.lamS_by (show LamX.lamSB (defScope s__law_made) _ = true by decide +kernel)) rfl (fun _ _ _ _ _ => rfl) (fun _ _ _ _ _ _ _ hr2 => (pe_exc T.ox_BadCommand T.ic_BadCommand T.it_BadCommand G_BadCommand (show Room (3 + 1) _ from hr2) (bd_BadCommandD_initD T) pass0 rfl T.mg_BadCommand (pa_cons (pv 1) pa_nil)))) pa_nil)))
    (pss_cons (ps_expr (pe_bm PySem.F.plainAttrs_list PySem.F.slot_list_append PySem.F.type_list_append mt_append (pv 3) (pa_cons (pe_lamV (T := tabsT a) TBM rfl (List.mem_cons_self ..) (tabs_uM T) (k := 4) (LamX.lamS_by (show LamX.lamSB (defScope s__law_made) _ = true by decide +kernel)) rfl (fun _ _ _ _ _ => rfl) (fun _ _ _ _ _ _ _ hr2 => (pe_exc T.ox_BadKind T.ic_BadKind T.it_BadKind G_BadKind (show Room (3 + 1) _ from hr2) (bd_BadKindD_initD T) pass0 rfl T.mg_BadKind (pa_cons (pv 1) pa_nil)))) pa_nil)))
    (pss_cons (ps_expr (pe_bm PySem.F.plainAttrs_list PySem.F.slot_list_append PySem.F.type_list_append mt_append (pv 3) (pa_cons (pe_lamV (T := tabsT a) TBM rfl (List.mem_cons_self ..) (tabs_uM T) (k := 4) (LamX.lamS_by (show LamX.lamSB (defScope s__law_made) _ = true by decide +kernel)) rfl (fun _ _ _ _ _ => rfl) (fun _ _ _ _ _ _ _ hr2 => (pe_exc T.ox_BadStand T.ic_BadStand T.it_BadStand G_BadStand (show Room (3 + 1) _ from hr2) (bd_BadStandD_initD T) pass0 rfl T.mg_BadStand (pa_cons (pv 1) pa_nil)))) pa_nil)))
    (pss_cons (ps_expr (pe_bm PySem.F.plainAttrs_list PySem.F.slot_list_append PySem.F.type_list_append mt_append (pv 3) (pa_cons (pe_lamV (T := tabsT a) TBM rfl (List.mem_cons_self ..) (tabs_uM T) (k := 4) (LamX.lamS_by (show LamX.lamSB (defScope s__law_made) _ = true by decide +kernel)) rfl (fun _ _ _ _ _ => rfl) (fun _ _ _ _ _ _ _ hr2 => (pe_exc T.ox_BadBeat T.ic_BadBeat T.it_BadBeat G_BadBeat (show Room (3 + 1) _ from hr2) (bd_BadBeatD_initD T) pass0 rfl T.mg_BadBeat (pa_cons (pv 1) pa_nil)))) pa_nil)))
    (pss_cons (ps_expr (pe_bm PySem.F.plainAttrs_list PySem.F.slot_list_append PySem.F.type_list_append mt_append (pv 3) (pa_cons (pe_lamV (T := tabsT a) TBM rfl (List.mem_cons_self ..) (tabs_uM T) (k := 4) (LamX.lamS_by (show LamX.lamSB (defScope s__law_made) _ = true by decide +kernel)) rfl (fun _ _ _ _ _ => rfl) (fun _ _ _ _ _ _ _ hr2 => (pe_exc T.ox_BadText T.ic_BadText T.it_BadText G_BadText (show Room (3 + 1) _ from hr2) (bd_BadTextD_initD T) pass0 rfl T.mg_BadText (pa_cons (pv 1) (pa_cons (pv 2) pa_nil))))) pa_nil)))
    (pss_cons (ps_expr (pe_bm PySem.F.plainAttrs_list PySem.F.slot_list_append PySem.F.type_list_append mt_append (pv 3) (pa_cons (pe_lamV (T := tabsT a) TBM rfl (List.mem_cons_self ..) (tabs_uM T) (k := 4) (LamX.lamS_by (show LamX.lamSB (defScope s__law_made) _ = true by decide +kernel)) rfl (fun _ _ _ _ _ => rfl) (fun _ _ _ _ _ _ _ hr2 => (pe_exc T.ox_NoEntry T.ic_NoEntry T.it_NoEntry G_NoEntry (show Room (3 + 1) _ from hr2) (bd_NoEntryD_initD T) pass0 rfl T.mg_NoEntry (pa_cons (pv 1) pa_nil)))) pa_nil)))
    (pss_cons (ps_expr (pe_bm PySem.F.plainAttrs_list PySem.F.slot_list_append PySem.F.type_list_append mt_append (pv 3) (pa_cons (pe_lamV (T := tabsT a) TBM rfl (List.mem_cons_self ..) (tabs_uM T) (k := 4) (LamX.lamS_by (show LamX.lamSB (defScope s__law_made) _ = true by decide +kernel)) rfl (fun _ _ _ _ _ => rfl) (fun _ _ _ _ _ _ _ hr2 => (pe_exc T.ox_NoCommand T.ic_NoCommand T.it_NoCommand G_NoCommand (show Room (3 + 1) _ from hr2) (bd_NoCommandD_initD T) pass0 rfl T.mg_NoCommand (pa_cons (pv 1) pa_nil)))) pa_nil)))
    (pss_cons (ps_expr (pe_bm PySem.F.plainAttrs_list PySem.F.slot_list_append PySem.F.type_list_append mt_append (pv 3) (pa_cons (pe_lamV (T := tabsT a) TBM rfl (List.mem_cons_self ..) (tabs_uM T) (k := 4) (LamX.lamS_by (show LamX.lamSB (defScope s__law_made) _ = true by decide +kernel)) rfl (fun _ _ _ _ _ => rfl) (fun _ _ _ _ _ _ _ hr2 => (pe_exc T.ox_NoStand T.ic_NoStand T.it_NoStand G_NoStand (show Room (3 + 1) _ from hr2) (bd_NoStandD_initD T) pass0 rfl T.mg_NoStand (pa_cons (pv 1) pa_nil)))) pa_nil)))
    (pss_cons (ps_expr (pe_bm PySem.F.plainAttrs_list PySem.F.slot_list_append PySem.F.type_list_append mt_append (pv 3) (pa_cons (pe_lamV (T := tabsT a) TBM rfl (List.mem_cons_self ..) (tabs_uM T) (k := 4) (LamX.lamS_by (show LamX.lamSB (defScope s__law_made) _ = true by decide +kernel)) rfl (fun _ _ _ _ _ => rfl) (fun _ _ _ _ _ _ _ hr2 => (pe_exc T.ox_TooMany T.ic_TooMany T.it_TooMany G_TooMany (show Room (3 + 1) _ from hr2) (bd_TooManyD_initD T) pass0 rfl T.mg_TooMany (pa_cons (pv 1) pa_nil)))) pa_nil)))
    (pss_cons (ps_expr (pe_bm PySem.F.plainAttrs_list PySem.F.slot_list_append PySem.F.type_list_append mt_append (pv 3) (pa_cons (pe_lamV (T := tabsT a) TBM rfl (List.mem_cons_self ..) (tabs_uM T) (k := 4) (LamX.lamS_by (show LamX.lamSB (defScope s__law_made) _ = true by decide +kernel)) rfl (fun _ _ _ _ _ => rfl) (fun _ _ _ _ _ _ _ hr2 => (pe_exc0 T.ox_NoKind T.ic_NoKind T.it_NoKind G_NoKind (show Room (3 + 1) _ from hr2) (bd_NoKindD_initD T) pass0 rfl T.mg_NoKind))) pa_nil)))
    (pss_one (ps_ret (pe_actSub (E := E0) (k := 4) (pe_ix ix_list (pv 3) (pv 0) (fun _ _ => rfl)) passL hrc))))))))))))))))))), ?_⟩
    refine q_lam1 tab fun l f0 H0 ls => ?_
    refine q_lamN rfl (by show 1 < 900; decide) ls fun f1 H1 ls => ?_
    refine q_lamN rfl (by show 2 < 900; decide) ls fun f2 H2 ls => ?_
    refine q_lamN rfl (by show 3 < 900; decide) ls fun f3 H3 ls => ?_
    refine q_lamN rfl (by show 4 < 900; decide) ls fun f4 H4 ls => ?_
    refine q_lamN rfl (by show 5 < 900; decide) ls fun f5 H5 ls => ?_
    refine q_lamN rfl (by show 6 < 900; decide) ls fun f6 H6 ls => ?_
    refine q_lamN rfl (by show 7 < 900; decide) ls fun f7 H7 ls => ?_
    refine q_lamN rfl (by show 8 < 900; decide) ls fun f8 H8 ls => ?_
    refine q_lamN rfl (by show 9 < 900; decide) ls fun f9 H9 ls => ?_
    refine q_lamN rfl (by show 10 < 900; decide) ls fun f10 H10 ls => ?_
    refine q_lamN rfl (by show 11 < 900; decide) ls fun f11 H11 ls => ?_
    refine q_lamN rfl (by show 12 < 900; decide) ls fun f12 H12 ls => ?_
    refine q_lamN rfl (by show 13 < 900; decide) ls fun f13 H13 ls => ?_
    refine q_lamN rfl (by show 14 < 900; decide) ls fun f14 H14 ls => ?_
    match n, hn, hC, hf with
    | 0, _, hC, hf =>
      cases hC; cases hf
      exact s_retLam (w := 0) (f := f0) rfl rfl ls rfl ⟨x, rfl, by show 1 ≤ 900; decide, err_made rfl (fun e H2 e2 he hv => k e H2 (ls.extN.trans (ExtN.of e2)) (LamX.Tabs.ext ls.tabs e2) hv)⟩
    | 1, _, hC, hf =>
      cases hC; cases hf
      exact s_retLam (w := 1) (f := f1) rfl rfl ls rfl ⟨x, rfl, by show 1 ≤ 900; decide, err_made rfl (fun e H2 e2 he hv => k e H2 (ls.extN.trans (ExtN.of e2)) (LamX.Tabs.ext ls.tabs e2) hv)⟩
    | 2, _, hC, hf =>
      cases hC; cases hf
      exact s_retLam (w := 2) (f := f2) rfl rfl ls rfl ⟨x, rfl, by show 1 ≤ 900; decide, err_made rfl (fun e H2 e2 he hv => k e H2 (ls.extN.trans (ExtN.of e2)) (LamX.Tabs.ext ls.tabs e2) hv)⟩
    | 3, _, hC, hf =>
      cases hC; cases hf
      exact s_retLam (w := 3) (f := f3) rfl rfl ls rfl ⟨x, rfl, by show 1 ≤ 900; decide, err_made rfl (fun e H2 e2 he hv => k e H2 (ls.extN.trans (ExtN.of e2)) (LamX.Tabs.ext ls.tabs e2) hv)⟩
    | 4, _, hC, hf =>
      cases hC; cases hf
      exact s_retLam (w := 4) (f := f4) rfl rfl ls rfl ⟨x, rfl, by show 1 ≤ 900; decide, err_made rfl (fun e H2 e2 he hv => k e H2 (ls.extN.trans (ExtN.of e2)) (LamX.Tabs.ext ls.tabs e2) hv)⟩
    | 5, _, hC, hf =>
      cases hC; cases hf
      exact s_retLam (w := 5) (f := f5) rfl rfl ls rfl ⟨x, rfl, by show 1 ≤ 900; decide, err_made rfl (fun e H2 e2 he hv => k e H2 (ls.extN.trans (ExtN.of e2)) (LamX.Tabs.ext ls.tabs e2) hv)⟩
    | 6, _, hC, hf =>
      cases hC; cases hf
      exact s_retLam (w := 6) (f := f6) rfl rfl ls rfl ⟨x, rfl, by show 1 ≤ 900; decide, err_made rfl (fun e H2 e2 he hv => k e H2 (ls.extN.trans (ExtN.of e2)) (LamX.Tabs.ext ls.tabs e2) hv)⟩
    | 7, _, hC, hf =>
      cases hC; cases hf
      exact s_retLam (w := 7) (f := f7) rfl rfl ls rfl ⟨x, rfl, by show 1 ≤ 900; decide, err_made rfl (fun e H2 e2 he hv => k e H2 (ls.extN.trans (ExtN.of e2)) (LamX.Tabs.ext ls.tabs e2) hv)⟩
    | 8, _, hC, hf =>
      cases hC; cases hf
      exact s_retLam (w := 8) (f := f8) rfl rfl ls rfl ⟨x, rfl, by show 1 ≤ 900; decide, err_made rfl (fun e H2 e2 he hv => k e H2 (ls.extN.trans (ExtN.of e2)) (LamX.Tabs.ext ls.tabs e2) hv)⟩
    | 9, _, hC, hf =>
      cases hC; cases hf
      exact s_retLam (w := 9) (f := f9) rfl rfl ls rfl ⟨x, rfl, y, rfl, by show 2 ≤ 900; decide, err_made rfl (fun e H2 e2 he hv => k e H2 (ls.extN.trans (ExtN.of e2)) (LamX.Tabs.ext ls.tabs e2) hv)⟩
    | 10, _, hC, hf =>
      cases hC; cases hf
      exact s_retLam (w := 10) (f := f10) rfl rfl ls rfl ⟨x, rfl, by show 1 ≤ 900; decide, err_made rfl (fun e H2 e2 he hv => k e H2 (ls.extN.trans (ExtN.of e2)) (LamX.Tabs.ext ls.tabs e2) hv)⟩
    | 11, _, hC, hf =>
      cases hC; cases hf
      exact s_retLam (w := 11) (f := f11) rfl rfl ls rfl ⟨x, rfl, by show 1 ≤ 900; decide, err_made rfl (fun e H2 e2 he hv => k e H2 (ls.extN.trans (ExtN.of e2)) (LamX.Tabs.ext ls.tabs e2) hv)⟩
    | 12, _, hC, hf =>
      cases hC; cases hf
      exact s_retLam (w := 12) (f := f12) rfl rfl ls rfl ⟨x, rfl, by show 1 ≤ 900; decide, err_made rfl (fun e H2 e2 he hv => k e H2 (ls.extN.trans (ExtN.of e2)) (LamX.Tabs.ext ls.tabs e2) hv)⟩
    | 13, _, hC, hf =>
      cases hC; cases hf
      exact s_retLam (w := 13) (f := f13) rfl rfl ls rfl ⟨x, rfl, by show 1 ≤ 900; decide, err_made rfl (fun e H2 e2 he hv => k e H2 (ls.extN.trans (ExtN.of e2)) (LamX.Tabs.ext ls.tabs e2) hv)⟩
    | 14, _, hC, hf =>
      cases hC; cases hf
      exact s_retLam (w := 14) (f := f14) rfl rfl ls rfl ⟨by show 0 ≤ 900; decide, err_made rfl (fun e H2 e2 he hv => k e H2 (ls.extN.trans (ExtN.of e2)) (LamX.Tabs.ext ls.tabs e2) hv)⟩
    | n + 15, hn, _, _ => exact absurd hn (by omega)
theorem ok__law_named (T : Txt w K mg a) (TBN : TabB base mg a.cN a.PN) : FnG P w K mg base 6 a.f__law_named a.d__law_named ["_law_which", "_law_one", "_law_other"] (spMade a) := by
  obtain ⟨oc, od, kV, doc, pm, an, ct, osl, eM, lkM⟩ := T.at__law_named
  rw [eM] at lkM ⊢
  have G_BadMode : FnOk P w K mg base CX0 3 _ _ _ _ := (ok_BadModeD_initD T).mono (by decide)
  have G_BadClause : FnOk P w K mg base CX0 3 _ _ _ _ := (ok_BadClauseD_initD T).mono (by decide)
  have G_BadName : FnOk P w K mg base CX0 3 _ _ _ _ := (ok_BadNameD_initD T).mono (by decide)
  have G_BadPath : FnOk P w K mg base CX0 3 _ _ _ _ := (ok_BadPathD_initD T).mono (by decide)
  have G_BadUser : FnOk P w K mg base CX0 3 _ _ _ _ := (ok_BadUserD_initD T).mono (by decide)
  have G_BadCommand : FnOk P w K mg base CX0 3 _ _ _ _ := (ok_BadCommandD_initD T).mono (by decide)
  have G_BadKind : FnOk P w K mg base CX0 3 _ _ _ _ := (ok_BadKindD_initD T).mono (by decide)
  have G_BadStand : FnOk P w K mg base CX0 3 _ _ _ _ := (ok_BadStandD_initD T).mono (by decide)
  have G_BadBeat : FnOk P w K mg base CX0 3 _ _ _ _ := (ok_BadBeatD_initD T).mono (by decide)
  have G_BadText : FnOk P w K mg base CX0 3 _ _ _ _ := (ok_BadTextD_initD T).mono (by decide)
  have G_NoEntry : FnOk P w K mg base CX0 3 _ _ _ _ := (ok_NoEntryD_initD T).mono (by decide)
  have G_NoCommand : FnOk P w K mg base CX0 3 _ _ _ _ := (ok_NoCommandD_initD T).mono (by decide)
  have G_NoStand : FnOk P w K mg base CX0 3 _ _ _ _ := (ok_NoStandD_initD T).mono (by decide)
  have G_TooMany : FnOk P w K mg base CX0 3 _ _ _ _ := (ok_TooManyD_initD T).mono (by decide)
  have G_NoKind : FnOk P w K mg base CX0 3 _ _ _ _ := (ok_NoKindD_initD T).mono (by decide)
  refine fnG_of lkM T.co__law_named sc__law_named (fun vs H Q E h => ?_) fun A outer s H vs Q E gd hr h => ?_
  · obtain ⟨_, _, _, _, _, rfl, _⟩ := h
    rfl
  · obtain ⟨n, x, y, C, fs, rfl, hC, hf, hn, tab, k⟩ := h
    have hrc : Room 5 _ := hr
    refine ⟨_, (show PSs (cxOf CX0 P w K mg base n__law_named "_law_named" (defScope s__law_named) a.f__law_named (.ref a.cN) A outer s H E).nox (defBody s__law_named) _ from (pss_cons (ps_set (i := 3) sc__law_named.nd rfl (Or.inl rfl) (pe_lst (pa_cons (pe_lamV (T := tabsT a) TBN rfl (List.mem_cons_of_mem _ (List.mem_singleton.mpr rfl)) (tabs_uN T) (k := 4) (LamX.lamS_by (show LamX.lamSB (defScope s__law_named) _ = true by decide +kernel)) rfl (fun _ _ _ _ _ => rfl) (fun _ _ _ _ _ _ _ hr2 => (pe_excK (gs' := id) (gt := id) T.ox_BadMode T.ic_BadMode T.it_BadMode G_BadMode (show Room (3 + 1) _ from hr2) (kb_BadMode T) pass0 rfl T.mg_BadMode (pk_cons (pv 1) pk_nil) (fun _ _ => rfl) (fun _ _ => rfl)))) pa_nil)))
    (pss_cons (ps_expr (pe_bm PySem.F.plainAttrs_list PySem.F.slot_list_append PySem.F.type_list_append mt_append (pv 3) (pa_cons (pe_lamV (T := tabsT a) TBN rfl (List.mem_cons_of_mem _ (List.mem_singleton.mpr rfl)) (tabs_uN T) (k := 4) (LamX.lamS_by (show LamX.lamSB (defScope s__law_named) _ = true by decide +kernel)) rfl (fun _ _ _ _ _ => rfl) (fun _ _ _ _ _ _ _ hr2 => (pe_excK (gs' := id) (gt := id) T.ox_BadClause T.ic_BadClause T.it_BadClause G_BadClause (show Room (3 + 1) _ from hr2) (kb_BadClause T) pass0 rfl T.mg_BadClause (pk_cons (pv 1) pk_nil) (fun _ _ => rfl) (fun _ _ => rfl)))) pa_nil)))
    (pss_cons (ps_expr (pe_bm PySem.F.plainAttrs_list PySem.F.slot_list_append PySem.F.type_list_append mt_append (pv 3) (pa_cons (pe_lamV (T := tabsT a) TBN rfl (List.mem_cons_of_mem _ (List.mem_singleton.mpr rfl)) (tabs_uN T) (k := 4) (LamX.lamS_by (show LamX.lamSB (defScope s__law_named) _ = true by decide +kernel)) rfl (fun _ _ _ _ _ => rfl) (fun _ _ _ _ _ _ _ hr2 => (pe_excK (gs' := id) (gt := id) T.ox_BadName T.ic_BadName T.it_BadName G_BadName (show Room (3 + 1) _ from hr2) (kb_BadName T) pass0 rfl T.mg_BadName (pk_cons (pv 1) pk_nil) (fun _ _ => rfl) (fun _ _ => rfl)))) pa_nil)))
    (pss_cons (ps_expr (pe_bm PySem.F.plainAttrs_list PySem.F.slot_list_append PySem.F.type_list_append mt_append (pv 3) (pa_cons (pe_lamV (T := tabsT a) TBN rfl (List.mem_cons_of_mem _ (List.mem_singleton.mpr rfl)) (tabs_uN T) (k := 4) (LamX.lamS_by (show LamX.lamSB (defScope s__law_named) _ = true by decide +kernel)) rfl (fun _ _ _ _ _ => rfl) (fun _ _ _ _ _ _ _ hr2 => (pe_excK (gs' := id) (gt := id) T.ox_BadPath T.ic_BadPath T.it_BadPath G_BadPath (show Room (3 + 1) _ from hr2) (kb_BadPath T) pass0 rfl T.mg_BadPath (pk_cons (pv 1) pk_nil) (fun _ _ => rfl) (fun _ _ => rfl)))) pa_nil)))
    (pss_cons (ps_expr (pe_bm PySem.F.plainAttrs_list PySem.F.slot_list_append PySem.F.type_list_append mt_append (pv 3) (pa_cons (pe_lamV (T := tabsT a) TBN rfl (List.mem_cons_of_mem _ (List.mem_singleton.mpr rfl)) (tabs_uN T) (k := 4) (LamX.lamS_by (show LamX.lamSB (defScope s__law_named) _ = true by decide +kernel)) rfl (fun _ _ _ _ _ => rfl) (fun _ _ _ _ _ _ _ hr2 => (pe_excK (gs' := id) (gt := id) T.ox_BadUser T.ic_BadUser T.it_BadUser G_BadUser (show Room (3 + 1) _ from hr2) (kb_BadUser T) pass0 rfl T.mg_BadUser (pk_cons (pv 1) pk_nil) (fun _ _ => rfl) (fun _ _ => rfl)))) pa_nil)))
    (pss_cons (ps_expr (pe_bm PySem.F.plainAttrs_list PySem.F.slot_list_append PySem.F.type_list_append mt_append (pv 3) (pa_cons (pe_lamV (T := tabsT a) TBN rfl (List.mem_cons_of_mem _ (List.mem_singleton.mpr rfl)) (tabs_uN T) (k := 4) (LamX.lamS_by (show LamX.lamSB (defScope s__law_named) _ = true by decide +kernel)) rfl (fun _ _ _ _ _ => rfl) (fun _ _ _ _ _ _ _ hr2 => (pe_excK (gs' := id) (gt := id) T.ox_BadCommand T.ic_BadCommand T.it_BadCommand G_BadCommand (show Room (3 + 1) _ from hr2) (kb_BadCommand T) pass0 rfl T.mg_BadCommand (pk_cons (pv 1) pk_nil) (fun _ _ => rfl) (fun _ _ => rfl)))) pa_nil)))
    (pss_cons (ps_expr (pe_bm PySem.F.plainAttrs_list PySem.F.slot_list_append PySem.F.type_list_append mt_append (pv 3) (pa_cons (pe_lamV (T := tabsT a) TBN rfl (List.mem_cons_of_mem _ (List.mem_singleton.mpr rfl)) (tabs_uN T) (k := 4) (LamX.lamS_by (show LamX.lamSB (defScope s__law_named) _ = true by decide +kernel)) rfl (fun _ _ _ _ _ => rfl) (fun _ _ _ _ _ _ _ hr2 => (pe_excK (gs' := id) (gt := id) T.ox_BadKind T.ic_BadKind T.it_BadKind G_BadKind (show Room (3 + 1) _ from hr2) (kb_BadKind T) pass0 rfl T.mg_BadKind (pk_cons (pv 1) pk_nil) (fun _ _ => rfl) (fun _ _ => rfl)))) pa_nil)))
    (pss_cons (ps_expr (pe_bm PySem.F.plainAttrs_list PySem.F.slot_list_append PySem.F.type_list_append mt_append (pv 3) (pa_cons (pe_lamV (T := tabsT a) TBN rfl (List.mem_cons_of_mem _ (List.mem_singleton.mpr rfl)) (tabs_uN T) (k := 4) (LamX.lamS_by (show LamX.lamSB (defScope s__law_named) _ = true by decide +kernel)) rfl (fun _ _ _ _ _ => rfl) (fun _ _ _ _ _ _ _ hr2 => (pe_excK (gs' := id) (gt := id) T.ox_BadStand T.ic_BadStand T.it_BadStand G_BadStand (show Room (3 + 1) _ from hr2) (kb_BadStand T) pass0 rfl T.mg_BadStand (pk_cons (pv 1) pk_nil) (fun _ _ => rfl) (fun _ _ => rfl)))) pa_nil)))
    (pss_cons (ps_expr (pe_bm PySem.F.plainAttrs_list PySem.F.slot_list_append PySem.F.type_list_append mt_append (pv 3) (pa_cons (pe_lamV (T := tabsT a) TBN rfl (List.mem_cons_of_mem _ (List.mem_singleton.mpr rfl)) (tabs_uN T) (k := 4) (LamX.lamS_by (show LamX.lamSB (defScope s__law_named) _ = true by decide +kernel)) rfl (fun _ _ _ _ _ => rfl) (fun _ _ _ _ _ _ _ hr2 => (pe_excK (gs' := id) (gt := id) T.ox_BadBeat T.ic_BadBeat T.it_BadBeat G_BadBeat (show Room (3 + 1) _ from hr2) (kb_BadBeat T) pass0 rfl T.mg_BadBeat (pk_cons (pv 1) pk_nil) (fun _ _ => rfl) (fun _ _ => rfl)))) pa_nil)))
    (pss_cons (ps_expr (pe_bm PySem.F.plainAttrs_list PySem.F.slot_list_append PySem.F.type_list_append mt_append (pv 3) (pa_cons (pe_lamV (T := tabsT a) TBN rfl (List.mem_cons_of_mem _ (List.mem_singleton.mpr rfl)) (tabs_uN T) (k := 4) (LamX.lamS_by (show LamX.lamSB (defScope s__law_named) _ = true by decide +kernel)) rfl (fun _ _ _ _ _ => rfl) (fun _ _ _ _ _ _ _ hr2 => (pe_excK (gs' := List.reverse) (gt := List.reverse) T.ox_BadText T.ic_BadText T.it_BadText G_BadText (show Room (3 + 1) _ from hr2) (kb_BadText T) pass0 rfl T.mg_BadText (pk_cons (pv 2) (pk_cons (pv 1) pk_nil)) (fun _ _ => rfl) (fun _ _ => rfl)))) pa_nil)))
    (pss_cons (ps_expr (pe_bm PySem.F.plainAttrs_list PySem.F.slot_list_append PySem.F.type_list_append mt_append (pv 3) (pa_cons (pe_lamV (T := tabsT a) TBN rfl (List.mem_cons_of_mem _ (List.mem_singleton.mpr rfl)) (tabs_uN T) (k := 4) (LamX.lamS_by (show LamX.lamSB (defScope s__law_named) _ = true by decide +kernel)) rfl (fun _ _ _ _ _ => rfl) (fun _ _ _ _ _ _ _ hr2 => (pe_excK (gs' := id) (gt := id) T.ox_NoEntry T.ic_NoEntry T.it_NoEntry G_NoEntry (show Room (3 + 1) _ from hr2) (kb_NoEntry T) pass0 rfl T.mg_NoEntry (pk_cons (pv 1) pk_nil) (fun _ _ => rfl) (fun _ _ => rfl)))) pa_nil)))
    (pss_cons (ps_expr (pe_bm PySem.F.plainAttrs_list PySem.F.slot_list_append PySem.F.type_list_append mt_append (pv 3) (pa_cons (pe_lamV (T := tabsT a) TBN rfl (List.mem_cons_of_mem _ (List.mem_singleton.mpr rfl)) (tabs_uN T) (k := 4) (LamX.lamS_by (show LamX.lamSB (defScope s__law_named) _ = true by decide +kernel)) rfl (fun _ _ _ _ _ => rfl) (fun _ _ _ _ _ _ _ hr2 => (pe_excK (gs' := id) (gt := id) T.ox_NoCommand T.ic_NoCommand T.it_NoCommand G_NoCommand (show Room (3 + 1) _ from hr2) (kb_NoCommand T) pass0 rfl T.mg_NoCommand (pk_cons (pv 1) pk_nil) (fun _ _ => rfl) (fun _ _ => rfl)))) pa_nil)))
    (pss_cons (ps_expr (pe_bm PySem.F.plainAttrs_list PySem.F.slot_list_append PySem.F.type_list_append mt_append (pv 3) (pa_cons (pe_lamV (T := tabsT a) TBN rfl (List.mem_cons_of_mem _ (List.mem_singleton.mpr rfl)) (tabs_uN T) (k := 4) (LamX.lamS_by (show LamX.lamSB (defScope s__law_named) _ = true by decide +kernel)) rfl (fun _ _ _ _ _ => rfl) (fun _ _ _ _ _ _ _ hr2 => (pe_excK (gs' := id) (gt := id) T.ox_NoStand T.ic_NoStand T.it_NoStand G_NoStand (show Room (3 + 1) _ from hr2) (kb_NoStand T) pass0 rfl T.mg_NoStand (pk_cons (pv 1) pk_nil) (fun _ _ => rfl) (fun _ _ => rfl)))) pa_nil)))
    (pss_cons (ps_expr (pe_bm PySem.F.plainAttrs_list PySem.F.slot_list_append PySem.F.type_list_append mt_append (pv 3) (pa_cons (pe_lamV (T := tabsT a) TBN rfl (List.mem_cons_of_mem _ (List.mem_singleton.mpr rfl)) (tabs_uN T) (k := 4) (LamX.lamS_by (show LamX.lamSB (defScope s__law_named) _ = true by decide +kernel)) rfl (fun _ _ _ _ _ => rfl) (fun _ _ _ _ _ _ _ hr2 => (pe_excK (gs' := id) (gt := id) T.ox_TooMany T.ic_TooMany T.it_TooMany G_TooMany (show Room (3 + 1) _ from hr2) (kb_TooMany T) pass0 rfl T.mg_TooMany (pk_cons (pv 1) pk_nil) (fun _ _ => rfl) (fun _ _ => rfl)))) pa_nil)))
    (pss_cons (ps_expr (pe_bm PySem.F.plainAttrs_list PySem.F.slot_list_append PySem.F.type_list_append mt_append (pv 3) (pa_cons (pe_lamV (T := tabsT a) TBN rfl (List.mem_cons_of_mem _ (List.mem_singleton.mpr rfl)) (tabs_uN T) (k := 4) (LamX.lamS_by (show LamX.lamSB (defScope s__law_named) _ = true by decide +kernel)) rfl (fun _ _ _ _ _ => rfl) (fun _ _ _ _ _ _ _ hr2 => (pe_exc0 T.ox_NoKind T.ic_NoKind T.it_NoKind G_NoKind (show Room (3 + 1) _ from hr2) (bd_NoKindD_initD T) pass0 rfl T.mg_NoKind))) pa_nil)))
    (pss_one (ps_ret (pe_actSub (E := E0) (k := 4) (pe_ix ix_list (pv 3) (pv 0) (fun _ _ => rfl)) passL hrc))))))))))))))))))), ?_⟩
    refine q_lam1 tab fun l f0 H0 ls => ?_
    refine q_lamN rfl (by show 1 < 900; decide) ls fun f1 H1 ls => ?_
    refine q_lamN rfl (by show 2 < 900; decide) ls fun f2 H2 ls => ?_
    refine q_lamN rfl (by show 3 < 900; decide) ls fun f3 H3 ls => ?_
    refine q_lamN rfl (by show 4 < 900; decide) ls fun f4 H4 ls => ?_
    refine q_lamN rfl (by show 5 < 900; decide) ls fun f5 H5 ls => ?_
    refine q_lamN rfl (by show 6 < 900; decide) ls fun f6 H6 ls => ?_
    refine q_lamN rfl (by show 7 < 900; decide) ls fun f7 H7 ls => ?_
    refine q_lamN rfl (by show 8 < 900; decide) ls fun f8 H8 ls => ?_
    refine q_lamN rfl (by show 9 < 900; decide) ls fun f9 H9 ls => ?_
    refine q_lamN rfl (by show 10 < 900; decide) ls fun f10 H10 ls => ?_
    refine q_lamN rfl (by show 11 < 900; decide) ls fun f11 H11 ls => ?_
    refine q_lamN rfl (by show 12 < 900; decide) ls fun f12 H12 ls => ?_
    refine q_lamN rfl (by show 13 < 900; decide) ls fun f13 H13 ls => ?_
    refine q_lamN rfl (by show 14 < 900; decide) ls fun f14 H14 ls => ?_
    match n, hn, hC, hf with
    | 0, _, hC, hf =>
      cases hC; cases hf
      exact s_retLam (w := 0) (f := f0) rfl rfl ls rfl ⟨x, rfl, rfl, err_made rfl (fun e H2 e2 he hv => k e H2 (ls.extN.trans (ExtN.of e2)) (LamX.Tabs.ext ls.tabs e2) hv)⟩
    | 1, _, hC, hf =>
      cases hC; cases hf
      exact s_retLam (w := 1) (f := f1) rfl rfl ls rfl ⟨x, rfl, rfl, err_made rfl (fun e H2 e2 he hv => k e H2 (ls.extN.trans (ExtN.of e2)) (LamX.Tabs.ext ls.tabs e2) hv)⟩
    | 2, _, hC, hf =>
      cases hC; cases hf
      exact s_retLam (w := 2) (f := f2) rfl rfl ls rfl ⟨x, rfl, rfl, err_made rfl (fun e H2 e2 he hv => k e H2 (ls.extN.trans (ExtN.of e2)) (LamX.Tabs.ext ls.tabs e2) hv)⟩
    | 3, _, hC, hf =>
      cases hC; cases hf
      exact s_retLam (w := 3) (f := f3) rfl rfl ls rfl ⟨x, rfl, rfl, err_made rfl (fun e H2 e2 he hv => k e H2 (ls.extN.trans (ExtN.of e2)) (LamX.Tabs.ext ls.tabs e2) hv)⟩
    | 4, _, hC, hf =>
      cases hC; cases hf
      exact s_retLam (w := 4) (f := f4) rfl rfl ls rfl ⟨x, rfl, rfl, err_made rfl (fun e H2 e2 he hv => k e H2 (ls.extN.trans (ExtN.of e2)) (LamX.Tabs.ext ls.tabs e2) hv)⟩
    | 5, _, hC, hf =>
      cases hC; cases hf
      exact s_retLam (w := 5) (f := f5) rfl rfl ls rfl ⟨x, rfl, rfl, err_made rfl (fun e H2 e2 he hv => k e H2 (ls.extN.trans (ExtN.of e2)) (LamX.Tabs.ext ls.tabs e2) hv)⟩
    | 6, _, hC, hf =>
      cases hC; cases hf
      exact s_retLam (w := 6) (f := f6) rfl rfl ls rfl ⟨x, rfl, rfl, err_made rfl (fun e H2 e2 he hv => k e H2 (ls.extN.trans (ExtN.of e2)) (LamX.Tabs.ext ls.tabs e2) hv)⟩
    | 7, _, hC, hf =>
      cases hC; cases hf
      exact s_retLam (w := 7) (f := f7) rfl rfl ls rfl ⟨x, rfl, rfl, err_made rfl (fun e H2 e2 he hv => k e H2 (ls.extN.trans (ExtN.of e2)) (LamX.Tabs.ext ls.tabs e2) hv)⟩
    | 8, _, hC, hf =>
      cases hC; cases hf
      exact s_retLam (w := 8) (f := f8) rfl rfl ls rfl ⟨x, rfl, rfl, err_made rfl (fun e H2 e2 he hv => k e H2 (ls.extN.trans (ExtN.of e2)) (LamX.Tabs.ext ls.tabs e2) hv)⟩
    | 9, _, hC, hf =>
      cases hC; cases hf
      exact s_retLam (w := 9) (f := f9) rfl rfl ls rfl ⟨y, rfl, x, rfl, rfl, err_made rfl (fun e H2 e2 he hv => k e H2 (ls.extN.trans (ExtN.of e2)) (LamX.Tabs.ext ls.tabs e2) hv)⟩
    | 10, _, hC, hf =>
      cases hC; cases hf
      exact s_retLam (w := 10) (f := f10) rfl rfl ls rfl ⟨x, rfl, rfl, err_made rfl (fun e H2 e2 he hv => k e H2 (ls.extN.trans (ExtN.of e2)) (LamX.Tabs.ext ls.tabs e2) hv)⟩
    | 11, _, hC, hf =>
      cases hC; cases hf
      exact s_retLam (w := 11) (f := f11) rfl rfl ls rfl ⟨x, rfl, rfl, err_made rfl (fun e H2 e2 he hv => k e H2 (ls.extN.trans (ExtN.of e2)) (LamX.Tabs.ext ls.tabs e2) hv)⟩
    | 12, _, hC, hf =>
      cases hC; cases hf
      exact s_retLam (w := 12) (f := f12) rfl rfl ls rfl ⟨x, rfl, rfl, err_made rfl (fun e H2 e2 he hv => k e H2 (ls.extN.trans (ExtN.of e2)) (LamX.Tabs.ext ls.tabs e2) hv)⟩
    | 13, _, hC, hf =>
      cases hC; cases hf
      exact s_retLam (w := 13) (f := f13) rfl rfl ls rfl ⟨x, rfl, rfl, err_made rfl (fun e H2 e2 he hv => k e H2 (ls.extN.trans (ExtN.of e2)) (LamX.Tabs.ext ls.tabs e2) hv)⟩
    | 14, _, hC, hf =>
      cases hC; cases hf
      exact s_retLam (w := 14) (f := f14) rfl rfl ls rfl ⟨by show 0 ≤ 900; decide, err_made rfl (fun e H2 e2 he hv => k e H2 (ls.extN.trans (ExtN.of e2)) (LamX.Tabs.ext ls.tabs e2) hv)⟩
    | n + 15, hn, _, _ => exact absurd hn (by omega)
end
end KO
set_option Elab.async false
set_option linter.all false
set_option maxRecDepth 100000
set_option maxHeartbeats 4000000
namespace KO
open PySem PySem.Spec PyProof.Rows L2 Evl KF
local macro_rules | `(tactic| walk_at "ev") => `(tactic| repeat' (first | exact ev_c | exact ev_var rfl | exact rv_I0 | refine' rv_I ?_ | refine' rv_eq ?_ | refine' rv_ne ?_ | refine' ev_op ?_ ?_ ?_ | exact ea_nil | refine' ea_cons ?_ ?_ | refine' et_test ?_ | refine' et_B ?_ | refine' et_not ?_ | refine' ev_notV ?_))

open PySem LamX
/-! ### what a field may be -/
def dats : List PyData := [.none, .bool true, .int 0, .int (-1), .int 100000000000000000000, .str "", .str "a/b", .str "user", .tuple [.int 1, .str "x"], .tuple [], .list [.str "a"], .dict []]
def EvZ (te : TE) (σ : L2.St) (H : Hp) (d : PyData) : Prop := ∀ H1, Ex H H1 → ∀ Q : VK, (∀ x H2, Ex H1 H2 → Dz H2 x d → Q x H2) → te σ H1 Q
def EvZs (ta : TA) (σ : L2.St) (H : Hp) (ds : List PyData) : Prop := ∀ H1, Ex H H1 → ∀ Q : List V → Hp → Prop, (∀ xs H2, Ex H1 H2 → xs.length = ds.length → DzAll H2 xs ds → Q xs H2) → ta σ H1 Q
theorem keepD_ex {H H' : Hp} (e : Ex H H') : KeepD H H' := fun b o h _ => e b o h
theorem keepD_N {H H' : Hp} (e : ExtN H H') : KeepD H H' := fun b o h k => e b o h (fun ps z => by
  rcases k with ⟨_, k⟩ | ⟨_, k⟩ | k <;> rw [z] at k <;> cases k)
theorem keepD_B {H H' : Hp} {p : Addr} (hb : BagAt H p) (e : ExB p H H') : KeepD H H' := fun b o h k => by
  obtain ⟨l, ns, at_, rest, state, h1, _⟩ := hb
  refine e b o h fun z => ?_
  rw [z, h1] at h
  cases h
  rcases k with ⟨_, k⟩ | ⟨_, k⟩ | k <;> cases k
section
variable {σ : L2.St} {H : Hp} {te : TE} {ta : TA} {x : V} {d : PyData} {ds : List PyData}
theorem ez_v (h : Ev te σ H x) (z : ∀ H1, Dz H1 x d) : EvZ te σ H d := fun H1 e Q q => h H1 e _ fun H2 e2 => q x H2 e2 (z H2)
theorem ezs_nil : EvZs tNil σ H [] := fun H1 _ Q q => q [] H1 (Ex.refl H1) rfl .nil
theorem ezs_cons (h : EvZ te σ H d) (r : EvZs ta σ H ds) : EvZs (tCons te ta) σ H (d :: ds) := fun H1 e Q q =>
  h H1 e _ fun x H2 e2 z => r H2 (e.trans e2) _ fun xs H3 e3 l all => q (x :: xs) H3 (e2.trans e3) (by rw [List.length_cons, List.length_cons, l]) (.cons (Dz.keep (keepD_ex e3) _ _ z) all)
theorem ez_lst (h : EvZs ta σ H ds) (hl : ds.length ≤ 900) : EvZ (tLstN ta) σ H (.list ds) := fun H1 e Q q =>
  h H1 e _ fun xs H2 e2 l all => ⟨by rw [l, sizeLine_eq]; omega, fun p hp one => q _ _ (e2.trans (Ex.new hp)) (.lst one upd_same (DzAll.keep (keepD_ex (Ex.new hp)) _ _ all))⟩
theorem ez_tup (h : EvZs ta σ H ds) (hl : ds.length ≤ 900) : EvZ (tTup ta) σ H (.tuple ds) := fun H1 e Q q =>
  h H1 e _ fun xs H2 e2 l all => ⟨by rw [l, sizeLine_eq]; omega, fun p hp => q _ _ (e2.trans (Ex.new hp)) (.tup upd_same (DzAll.keep (keepD_ex (Ex.new hp)) _ _ all))⟩
theorem ez_dict : EvZ tDNewK σ H (.dict []) := fun H1 e Q q p hp => q _ _ (Ex.new hp) (.dict upd_same)
end
theorem ezs_go {σ : L2.St} {H : Hp} {ta : TA} {ds : List PyData} {Q : List V → Hp → Prop} (h : EvZs ta σ H ds) (k : ∀ xs H1, Ex H H1 → xs.length = ds.length → DzAll H1 xs ds → Q xs H1) : ta σ H Q := h H (Ex.refl H) Q k
theorem q_asgZs {σ : L2.St} {H : Hp} {ta : TA} {ds : List PyData} {D : Ends} {tz : TS} {i : Nat} (h : EvZs ta σ H ds) (hl : ds.length ≤ 900) (k : ∀ l xs H1, Ex H H1 → xs.length = ds.length → DzAll H1 xs ds → H1 l = some (.lst xs) → tz D (σ.set i (some (.ref l))) H1) : tSeq (tAsg (tLst ta) (gName i)) tz D σ H :=
  h H (Ex.refl H) _ fun xs H1 e1 l all => ⟨by rw [l, sizeLine_eq]; omega, fun p hp => k p xs _ (e1.trans (Ex.new hp)) l (DzAll.keep (keepD_ex (Ex.new hp)) _ _ all) upd_same⟩
theorem dzAll_at {H : Hp} : ∀ {xs : List V} {ds : List PyData} (_ : DzAll H xs ds) {i : Nat} {d : PyData}, ds[i]? = some d → ∃ x, xs[i]? = some x ∧ Dz H x d
  | _, _, .nil, i, d, h => by cases h
  | _, _, .cons one rest, 0, d, h => by
    cases h
    exact ⟨_, rfl, one⟩
  | _, _, .cons one rest, i + 1, d, h => dzAll_at rest h
/-- a drawn field -/
def spField : Sp := fun vs H Q _ => ∃ p : Addr, vs = [.ref p] ∧ BagAt H p ∧ ∀ (i : Nat) (d : PyData) (x : V) (H' : Hp), dats[i]? = some d → Dz H' x d → ExB p H H' → BagAt H' p → Q x H'
section
variable {P : Program} {w : World} {K : PySem.W.Frag} {mg : Str → Option Value} {base : Heap} {a : Ads}
theorem ok_field (T : Txt w K mg a) : FnOk P w K mg base CX0 3 a.f__law_field a.d__law_field ["_law_bag_here"] spField := by
  have G__law_draw : FnOk P w K mg base CX0 2 _ _ _ _ := (ok_draw T).mono (by decide)
  refine T.fn__law_field.ok sc__law_field (fun vs H Q E h => ?_) (fun cdv A outer s H vs Q E hr h => ?_)
  · obtain ⟨_, rfl, _⟩ := h
    rfl
  · obtain ⟨p, rfl, bag, k⟩ := h
    have hrc : Room 2 _ := hr
    refine ⟨_, (pss_cons (ps_set (i := 1) sc__law_field.nd rfl (Or.inl rfl) (pe_lst (pa_cons pe_non (pa_cons pe_bl (pa_cons pe_int (pa_cons (pe_un un_neg pe_int) (pa_cons (pe_op op_pow pe_int pe_int) (pa_cons pe_str (pa_cons pe_str (pa_cons pe_str (pa_cons (pe_tup (pa_cons pe_int (pa_cons pe_str pa_nil))) (pa_cons (pe_tup pa_nil) (pa_cons (pe_lstN (pa_cons pe_str pa_nil)) (pa_cons pe_dnewK pa_nil))))))))))))))
    (pss_one (ps_ret (pe_ix ix_list (pv 1) (pe_call G__law_draw hrc rfl T.mg__law_draw T.fn__law_draw.kp (bd__law_draw T) .nil pass0 (pa_cons (pv 0) (pa_cons (pe_callB call_len_seq (by rfl) T.b_len PySem.boot_len (pa_cons (pv 1) pa_nil)) pa_nil))) (fun _ _ => rfl))))), ?_⟩
    refine q_asgZs (ds := dats) ?_ (by show 12 ≤ 900; decide) fun l xs H2 e2 hl all2 h2 => ?_
    · exact ezs_cons (d := .none) (ez_v ev_c fun _ => .non) (ezs_cons (d := .bool true) (ez_v ev_c fun _ => .bl _) (ezs_cons (d := .int 0) (ez_v ev_c fun _ => .int _) (ezs_cons (d := .int (-1)) (ez_v (ev_un ev_c ru_neg) fun _ => .int _) (ezs_cons (d := .int 100000000000000000000) (ez_v (ev_is (ev_op ev_c ev_c (rv_I ⟨by decide, by decide, by decide⟩)) (congrArg V.int (by decide))) fun _ => .int _) (ezs_cons (d := .str "") (ez_v ev_c fun _ => .str _) (ezs_cons (d := .str "a/b") (ez_v ev_c fun _ => .str _) (ezs_cons (d := .str "user") (ez_v ev_c fun _ => .str _)
      (ezs_cons (ez_tup (ezs_cons (d := .int 1) (ez_v ev_c fun _ => .int _) (ezs_cons (d := .str "x") (ez_v ev_c fun _ => .str _) ezs_nil)) (by show 2 ≤ 900; decide)) (ezs_cons (ez_tup ezs_nil (by show 0 ≤ 900; decide)) (ezs_cons (ez_lst (ezs_cons (d := .str "a") (ez_v ev_c fun _ => .str _) ezs_nil) (by show 1 ≤ 900; decide)) (ezs_cons ez_dict ezs_nil)))))))))))
    have bag2 := bag.keep e2
    have lp : l ≠ p := fun z => by
      obtain ⟨_, _, _, _, _, h3, _⟩ := bag2
      rw [← z, h2] at h3
      cases h3
    refine ⟨.ref l, rfl, .ref p, rfl, (ev_lenS (K := K) (ev_var rfl) (sq_of h2) : Ev _ _ H2 _) H2 (Ex.refl H2) _ fun H3 e3 => ?_⟩
    refine ⟨p, 12, by rw [hl]; rfl, bag2.keep e3, by decide, by decide, fun d H4 hd e4 bag4 => ?_⟩
    have hd' : d < dats.length := hd
    obtain ⟨x, hx, dz⟩ := dzAll_at all2 (List.getElem?_eq_getElem hd')
    exact ⟨l, xs, (d : Nat), x, rfl, rfl, sq_of (e4 _ _ (e3 _ _ h2) lp), atI_nat hx, k d _ x H4 (List.getElem?_eq_getElem hd') (Dz.keep (keepD_B (bag2.keep e3) e4) _ _ (Dz.keep (keepD_ex e3) _ _ dz)) (fun b o hb ne => e4 _ _ (e3 _ _ (e2 _ _ hb)) ne) bag4⟩
end
end KO
set_option Elab.async false
set_option linter.all false
set_option maxRecDepth 100000
set_option maxHeartbeats 4000000
namespace KO
open PySem PySem.Spec PyProof.Rows L2 Evl KF
local macro_rules | `(tactic| walk_at "ev") => `(tactic| repeat' (first | exact ev_c | exact ev_var rfl | exact rv_I0 | refine' rv_I ?_ | refine' rv_eq ?_ | refine' rv_ne ?_ | refine' ev_op ?_ ?_ ?_ | exact ea_nil | refine' ea_cons ?_ ?_ | refine' et_test ?_ | refine' et_B ?_ | refine' et_not ?_ | refine' ev_notV ?_))

open PySem LamX
/-! ### the fields of an error -/
def dsL (x y : PyData) : List (List PyData) := [[x], [x], [x], [x], [x], [x], [x], [x], [x], [x, y], [x], [x], [x], [x], []]
def spFields (a : Ads) : Sp := fun vs H Q _ => ∃ (n : Nat) (e C : Addr) (x y : V) (dx dy : PyData) (fs : List (Str × V)) (ds : List PyData), vs = [.int n, .ref e] ∧ a.all[n]? = some C ∧ (fsL x y)[n]? = some fs ∧ (dsL dx dy)[n]? = some ds ∧ n < 15 ∧ ExV H e C fs ∧ Dz H x dx ∧ Dz H y dy ∧
  ∀ v H', Ex H H' → Dz H' v (.list ds) → Q v H'
section
variable {K : PySem.W.Frag} {σ : L2.St} {H : Hp} {te tw : TE} {ta : TA} {x v : V} {d : PyData} {D : Ends} {vs : List V}
theorem ev_inN (hw : Ev tw σ H v) (ha : EvA ta σ H vs) (fx : flatV v = true) (fs : vs.all flatV = true) (hl : vs.length ≤ 900) : Ev (tOp (rIn K false) tw (tLst ta)) σ H (.bl (inV v vs)) := fun H1 e Q q =>
  hw H1 e _ fun H2 e2 => ha H2 (e.trans e2) _ fun H3 e3 => ⟨by rw [sizeLine_eq]; omega, fun p hp => ⟨p, vs, rfl, .inl (sq_of upd_same), fx, fs, q _ ((e2.trans e3).trans (Ex.new hp))⟩⟩
theorem ez_fld {i : Nat} {e C : Addr} {fs : List (Str × V)} {f : Str} {y : V} (hE : ExV H e C fs) (ec : ExcC K C) (no : PySem.W.findIn K (.ref C) f = some none) (lk : fs.lookup f = some y) (z : Dz H y d) (hi : σ[i]? = some (some (.ref e)) := by rfl) : EvZ (tExF K f (tVar i)) σ H d := fun H1 e1 Q q => by
  rcases hE with ⟨rfl, _⟩ | ⟨dd, h1, h2⟩
  · cases lk
  · exact ⟨.ref e, hi, e, C, dd, fs, y, rfl, ec, no, e1 _ _ h1, e1 _ _ h2, lk, q y H1 (Ex.refl H1) (Dz.keep (keepD_ex e1) _ _ z)⟩
theorem s_retZ (h : EvZ te σ H d) (k : ∀ v H1, Ex H H1 → Dz H1 v d → D.rt v H1) : tRet te D σ H := h H (Ex.refl H) _ k
theorem ez_if {b : Bool} {t : TT} {t1 t2 : TE} (h : EvT t σ H b) (h1 : b = true → EvZ t1 σ H d) (h2 : b = false → EvZ t2 σ H d) : EvZ (tIf t t1 t2) σ H d := fun H1 e Q q => h H1 e _ fun H2 e2 => by
  cases b with
  | true => exact h1 rfl H2 (e.trans e2) _ fun x H3 e3 z => q x H3 (e2.trans e3) z
  | false => exact h2 rfl H2 (e.trans e2) _ fun x H3 e3 z => q x H3 (e2.trans e3) z
end
section
variable {P : Program} {w : World} {K : PySem.W.Frag} {mg : Str → Option Value} {base : Heap} {a : Ads}
theorem ok_fields (T : Txt w K mg a) : FnOk P w K mg base CX0 1 a.f__law_fields a.d__law_fields ["_law_which", "_law_error"] (spFields a) := by
  refine T.fn__law_fields.ok sc__law_fields (fun vs H Q E h => ?_) (fun cdv A outer s H vs Q E hr h => ?_)
  · obtain ⟨_, _, _, _, _, _, _, _, _, rfl, _⟩ := h
    rfl
  · obtain ⟨n, e, C, x, y, dx, dy, fs, ds, rfl, hC, hf, hd, hn, hE, zx, zy, k⟩ := h
    refine ⟨_, (pss_cons (ps_if (pt_cmpR op_eq (pv 0) pe_int (nomark _)) (pss_one (ps_ret (pe_lstN (pa_cons (pe_exF (f := "line") (pv 1)) (pa_cons (pe_exF (f := "word") (pv 1)) pa_nil))))) pss_nil)
    (pss_cons (ps_if (pt_cmpR op_in_seq (pv 0) (pe_lst (pa_cons pe_int (pa_cons pe_int (pa_cons pe_int (pa_cons pe_int pa_nil))))) (by rfl)) (pss_one (ps_ret (pe_lstN (pa_cons (pe_exF (f := "part") (pv 1)) pa_nil)))) pss_nil)
    (pss_cons (ps_if (pt_cmpR op_in_seq (pv 0) (pe_lst (pa_cons pe_int (pa_cons pe_int pa_nil))) (by rfl)) (pss_one (ps_ret (pe_lstN (pa_cons (pe_exF (f := "at") (pv 1)) pa_nil)))) pss_nil)
    (pss_cons (ps_if (pt_cmpR op_eq (pv 0) pe_int (nomark _)) (pss_one (ps_ret (pe_lstN (pa_cons (pe_exF (f := "name") (pv 1)) pa_nil)))) pss_nil)
    (pss_cons (ps_if (pt_cmpR op_in_seq (pv 0) (pe_lst (pa_cons pe_int (pa_cons pe_int pa_nil))) (by rfl)) (pss_one (ps_ret (pe_lstN (pa_cons (pe_exF (f := "path") (pv 1)) pa_nil)))) pss_nil)
    (pss_cons (ps_if (pt_cmpR op_in_seq (pv 0) (pe_lst (pa_cons pe_int (pa_cons pe_int pa_nil))) (by rfl)) (pss_one (ps_ret (pe_lstN (pa_cons (pe_exF (f := "index") (pv 1)) pa_nil)))) pss_nil)
    (pss_cons (ps_if (pt_cmpR op_eq (pv 0) pe_int (nomark _)) (pss_one (ps_ret (pe_lstN (pa_cons (pe_exF (f := "joint") (pv 1)) pa_nil)))) pss_nil)
    (pss_one (ps_ret (pe_ifExp (pt_cmpR op_eq (pv 0) pe_int (nomark _)) (pe_lstN (pa_cons (pe_exF (f := "most") (pv 1)) pa_nil)) (pe_lstN pa_nil))))))))))), ?_⟩
    match n, hn, hC, hf, hd with
    | 0, _, hC, hf, hd =>
      cases hC; cases hf; cases hd
      have ee : Ex H H := Ex.refl H
      refine q_when (b := false) (et_is (et_test (ev_op (ev_var rfl) ev_c (rv_eq rfl))) (by decide)) (fun z => nomatch z) fun _ H1 e1 => ?_
      have ee := ee.trans e1; clear e1
      refine q_when (b := true) (et_is (et_test (ev_inN (K := K) (ev_var rfl) (ea_cons ev_c (ea_cons ev_c (ea_cons ev_c (ea_cons ev_c ea_nil)))) rfl rfl (by show 4 ≤ 900; decide))) (by decide)) (fun _ H1 e1 => ?_) (fun z => nomatch z)
      have ee := ee.trans e1
      exact s_retZ (ez_lst (ezs_cons (ez_fld (hE.mono ee) T.ec_BadMode T.npart_BadMode rfl (Dz.keep (keepD_ex ee) _ _ zx)) ezs_nil) (by show 1 ≤ 900; decide)) fun v H2 e2 dz => k v H2 (ee.trans e2) dz
    | 1, _, hC, hf, hd =>
      cases hC; cases hf; cases hd
      have ee : Ex H H := Ex.refl H
      refine q_when (b := false) (et_is (et_test (ev_op (ev_var rfl) ev_c (rv_eq rfl))) (by decide)) (fun z => nomatch z) fun _ H1 e1 => ?_
      have ee := ee.trans e1; clear e1
      refine q_when (b := false) (et_is (et_test (ev_inN (K := K) (ev_var rfl) (ea_cons ev_c (ea_cons ev_c (ea_cons ev_c (ea_cons ev_c ea_nil)))) rfl rfl (by show 4 ≤ 900; decide))) (by decide)) (fun z => nomatch z) fun _ H1 e1 => ?_
      have ee := ee.trans e1; clear e1
      refine q_when (b := true) (et_is (et_test (ev_inN (K := K) (ev_var rfl) (ea_cons ev_c (ea_cons ev_c ea_nil)) rfl rfl (by show 2 ≤ 900; decide))) (by decide)) (fun _ H1 e1 => ?_) (fun z => nomatch z)
      have ee := ee.trans e1
      exact s_retZ (ez_lst (ezs_cons (ez_fld (hE.mono ee) T.ec_BadClause T.nat_BadClause rfl (Dz.keep (keepD_ex ee) _ _ zx)) ezs_nil) (by show 1 ≤ 900; decide)) fun v H2 e2 dz => k v H2 (ee.trans e2) dz
    | 2, _, hC, hf, hd =>
      cases hC; cases hf; cases hd
      have ee : Ex H H := Ex.refl H
      refine q_when (b := false) (et_is (et_test (ev_op (ev_var rfl) ev_c (rv_eq rfl))) (by decide)) (fun z => nomatch z) fun _ H1 e1 => ?_
      have ee := ee.trans e1; clear e1
      refine q_when (b := false) (et_is (et_test (ev_inN (K := K) (ev_var rfl) (ea_cons ev_c (ea_cons ev_c (ea_cons ev_c (ea_cons ev_c ea_nil)))) rfl rfl (by show 4 ≤ 900; decide))) (by decide)) (fun z => nomatch z) fun _ H1 e1 => ?_
      have ee := ee.trans e1; clear e1
      refine q_when (b := false) (et_is (et_test (ev_inN (K := K) (ev_var rfl) (ea_cons ev_c (ea_cons ev_c ea_nil)) rfl rfl (by show 2 ≤ 900; decide))) (by decide)) (fun z => nomatch z) fun _ H1 e1 => ?_
      have ee := ee.trans e1; clear e1
      refine q_when (b := true) (et_is (et_test (ev_op (ev_var rfl) ev_c (rv_eq rfl))) (by decide)) (fun _ H1 e1 => ?_) (fun z => nomatch z)
      have ee := ee.trans e1
      exact s_retZ (ez_lst (ezs_cons (ez_fld (hE.mono ee) T.ec_BadName T.nname_BadName rfl (Dz.keep (keepD_ex ee) _ _ zx)) ezs_nil) (by show 1 ≤ 900; decide)) fun v H2 e2 dz => k v H2 (ee.trans e2) dz
    | 3, _, hC, hf, hd =>
      cases hC; cases hf; cases hd
      have ee : Ex H H := Ex.refl H
      refine q_when (b := false) (et_is (et_test (ev_op (ev_var rfl) ev_c (rv_eq rfl))) (by decide)) (fun z => nomatch z) fun _ H1 e1 => ?_
      have ee := ee.trans e1; clear e1
      refine q_when (b := false) (et_is (et_test (ev_inN (K := K) (ev_var rfl) (ea_cons ev_c (ea_cons ev_c (ea_cons ev_c (ea_cons ev_c ea_nil)))) rfl rfl (by show 4 ≤ 900; decide))) (by decide)) (fun z => nomatch z) fun _ H1 e1 => ?_
      have ee := ee.trans e1; clear e1
      refine q_when (b := false) (et_is (et_test (ev_inN (K := K) (ev_var rfl) (ea_cons ev_c (ea_cons ev_c ea_nil)) rfl rfl (by show 2 ≤ 900; decide))) (by decide)) (fun z => nomatch z) fun _ H1 e1 => ?_
      have ee := ee.trans e1; clear e1
      refine q_when (b := false) (et_is (et_test (ev_op (ev_var rfl) ev_c (rv_eq rfl))) (by decide)) (fun z => nomatch z) fun _ H1 e1 => ?_
      have ee := ee.trans e1; clear e1
      refine q_when (b := true) (et_is (et_test (ev_inN (K := K) (ev_var rfl) (ea_cons ev_c (ea_cons ev_c ea_nil)) rfl rfl (by show 2 ≤ 900; decide))) (by decide)) (fun _ H1 e1 => ?_) (fun z => nomatch z)
      have ee := ee.trans e1
      exact s_retZ (ez_lst (ezs_cons (ez_fld (hE.mono ee) T.ec_BadPath T.npath_BadPath rfl (Dz.keep (keepD_ex ee) _ _ zx)) ezs_nil) (by show 1 ≤ 900; decide)) fun v H2 e2 dz => k v H2 (ee.trans e2) dz
    | 4, _, hC, hf, hd =>
      cases hC; cases hf; cases hd
      have ee : Ex H H := Ex.refl H
      refine q_when (b := false) (et_is (et_test (ev_op (ev_var rfl) ev_c (rv_eq rfl))) (by decide)) (fun z => nomatch z) fun _ H1 e1 => ?_
      have ee := ee.trans e1; clear e1
      refine q_when (b := true) (et_is (et_test (ev_inN (K := K) (ev_var rfl) (ea_cons ev_c (ea_cons ev_c (ea_cons ev_c (ea_cons ev_c ea_nil)))) rfl rfl (by show 4 ≤ 900; decide))) (by decide)) (fun _ H1 e1 => ?_) (fun z => nomatch z)
      have ee := ee.trans e1
      exact s_retZ (ez_lst (ezs_cons (ez_fld (hE.mono ee) T.ec_BadUser T.npart_BadUser rfl (Dz.keep (keepD_ex ee) _ _ zx)) ezs_nil) (by show 1 ≤ 900; decide)) fun v H2 e2 dz => k v H2 (ee.trans e2) dz
    | 5, _, hC, hf, hd =>
      cases hC; cases hf; cases hd
      have ee : Ex H H := Ex.refl H
      refine q_when (b := false) (et_is (et_test (ev_op (ev_var rfl) ev_c (rv_eq rfl))) (by decide)) (fun z => nomatch z) fun _ H1 e1 => ?_
      have ee := ee.trans e1; clear e1
      refine q_when (b := true) (et_is (et_test (ev_inN (K := K) (ev_var rfl) (ea_cons ev_c (ea_cons ev_c (ea_cons ev_c (ea_cons ev_c ea_nil)))) rfl rfl (by show 4 ≤ 900; decide))) (by decide)) (fun _ H1 e1 => ?_) (fun z => nomatch z)
      have ee := ee.trans e1
      exact s_retZ (ez_lst (ezs_cons (ez_fld (hE.mono ee) T.ec_BadCommand T.npart_BadCommand rfl (Dz.keep (keepD_ex ee) _ _ zx)) ezs_nil) (by show 1 ≤ 900; decide)) fun v H2 e2 dz => k v H2 (ee.trans e2) dz
    | 6, _, hC, hf, hd =>
      cases hC; cases hf; cases hd
      have ee : Ex H H := Ex.refl H
      refine q_when (b := false) (et_is (et_test (ev_op (ev_var rfl) ev_c (rv_eq rfl))) (by decide)) (fun z => nomatch z) fun _ H1 e1 => ?_
      have ee := ee.trans e1; clear e1
      refine q_when (b := false) (et_is (et_test (ev_inN (K := K) (ev_var rfl) (ea_cons ev_c (ea_cons ev_c (ea_cons ev_c (ea_cons ev_c ea_nil)))) rfl rfl (by show 4 ≤ 900; decide))) (by decide)) (fun z => nomatch z) fun _ H1 e1 => ?_
      have ee := ee.trans e1; clear e1
      refine q_when (b := true) (et_is (et_test (ev_inN (K := K) (ev_var rfl) (ea_cons ev_c (ea_cons ev_c ea_nil)) rfl rfl (by show 2 ≤ 900; decide))) (by decide)) (fun _ H1 e1 => ?_) (fun z => nomatch z)
      have ee := ee.trans e1
      exact s_retZ (ez_lst (ezs_cons (ez_fld (hE.mono ee) T.ec_BadKind T.nat_BadKind rfl (Dz.keep (keepD_ex ee) _ _ zx)) ezs_nil) (by show 1 ≤ 900; decide)) fun v H2 e2 dz => k v H2 (ee.trans e2) dz
    | 7, _, hC, hf, hd =>
      cases hC; cases hf; cases hd
      have ee : Ex H H := Ex.refl H
      refine q_when (b := false) (et_is (et_test (ev_op (ev_var rfl) ev_c (rv_eq rfl))) (by decide)) (fun z => nomatch z) fun _ H1 e1 => ?_
      have ee := ee.trans e1; clear e1
      refine q_when (b := false) (et_is (et_test (ev_inN (K := K) (ev_var rfl) (ea_cons ev_c (ea_cons ev_c (ea_cons ev_c (ea_cons ev_c ea_nil)))) rfl rfl (by show 4 ≤ 900; decide))) (by decide)) (fun z => nomatch z) fun _ H1 e1 => ?_
      have ee := ee.trans e1; clear e1
      refine q_when (b := false) (et_is (et_test (ev_inN (K := K) (ev_var rfl) (ea_cons ev_c (ea_cons ev_c ea_nil)) rfl rfl (by show 2 ≤ 900; decide))) (by decide)) (fun z => nomatch z) fun _ H1 e1 => ?_
      have ee := ee.trans e1; clear e1
      refine q_when (b := false) (et_is (et_test (ev_op (ev_var rfl) ev_c (rv_eq rfl))) (by decide)) (fun z => nomatch z) fun _ H1 e1 => ?_
      have ee := ee.trans e1; clear e1
      refine q_when (b := false) (et_is (et_test (ev_inN (K := K) (ev_var rfl) (ea_cons ev_c (ea_cons ev_c ea_nil)) rfl rfl (by show 2 ≤ 900; decide))) (by decide)) (fun z => nomatch z) fun _ H1 e1 => ?_
      have ee := ee.trans e1; clear e1
      refine q_when (b := true) (et_is (et_test (ev_inN (K := K) (ev_var rfl) (ea_cons ev_c (ea_cons ev_c ea_nil)) rfl rfl (by show 2 ≤ 900; decide))) (by decide)) (fun _ H1 e1 => ?_) (fun z => nomatch z)
      have ee := ee.trans e1
      exact s_retZ (ez_lst (ezs_cons (ez_fld (hE.mono ee) T.ec_BadStand T.nindex_BadStand rfl (Dz.keep (keepD_ex ee) _ _ zx)) ezs_nil) (by show 1 ≤ 900; decide)) fun v H2 e2 dz => k v H2 (ee.trans e2) dz
    | 8, _, hC, hf, hd =>
      cases hC; cases hf; cases hd
      have ee : Ex H H := Ex.refl H
      refine q_when (b := false) (et_is (et_test (ev_op (ev_var rfl) ev_c (rv_eq rfl))) (by decide)) (fun z => nomatch z) fun _ H1 e1 => ?_
      have ee := ee.trans e1; clear e1
      refine q_when (b := true) (et_is (et_test (ev_inN (K := K) (ev_var rfl) (ea_cons ev_c (ea_cons ev_c (ea_cons ev_c (ea_cons ev_c ea_nil)))) rfl rfl (by show 4 ≤ 900; decide))) (by decide)) (fun _ H1 e1 => ?_) (fun z => nomatch z)
      have ee := ee.trans e1
      exact s_retZ (ez_lst (ezs_cons (ez_fld (hE.mono ee) T.ec_BadBeat T.npart_BadBeat rfl (Dz.keep (keepD_ex ee) _ _ zx)) ezs_nil) (by show 1 ≤ 900; decide)) fun v H2 e2 dz => k v H2 (ee.trans e2) dz
    | 9, _, hC, hf, hd =>
      cases hC; cases hf; cases hd
      have ee : Ex H H := Ex.refl H
      refine q_when (b := true) (et_is (et_test (ev_op (ev_var rfl) ev_c (rv_eq rfl))) (by decide)) (fun _ H1 e1 => ?_) (fun z => nomatch z)
      have ee := ee.trans e1
      exact s_retZ (ez_lst (ezs_cons (ez_fld (hE.mono ee) T.ec_BadText T.nline_BadText rfl (Dz.keep (keepD_ex ee) _ _ zx)) (ezs_cons (ez_fld (hE.mono ee) T.ec_BadText T.nword_BadText rfl (Dz.keep (keepD_ex ee) _ _ zy)) ezs_nil)) (by show 2 ≤ 900; decide)) fun v H2 e2 dz => k v H2 (ee.trans e2) dz
    | 10, _, hC, hf, hd =>
      cases hC; cases hf; cases hd
      have ee : Ex H H := Ex.refl H
      refine q_when (b := false) (et_is (et_test (ev_op (ev_var rfl) ev_c (rv_eq rfl))) (by decide)) (fun z => nomatch z) fun _ H1 e1 => ?_
      have ee := ee.trans e1; clear e1
      refine q_when (b := false) (et_is (et_test (ev_inN (K := K) (ev_var rfl) (ea_cons ev_c (ea_cons ev_c (ea_cons ev_c (ea_cons ev_c ea_nil)))) rfl rfl (by show 4 ≤ 900; decide))) (by decide)) (fun z => nomatch z) fun _ H1 e1 => ?_
      have ee := ee.trans e1; clear e1
      refine q_when (b := false) (et_is (et_test (ev_inN (K := K) (ev_var rfl) (ea_cons ev_c (ea_cons ev_c ea_nil)) rfl rfl (by show 2 ≤ 900; decide))) (by decide)) (fun z => nomatch z) fun _ H1 e1 => ?_
      have ee := ee.trans e1; clear e1
      refine q_when (b := false) (et_is (et_test (ev_op (ev_var rfl) ev_c (rv_eq rfl))) (by decide)) (fun z => nomatch z) fun _ H1 e1 => ?_
      have ee := ee.trans e1; clear e1
      refine q_when (b := true) (et_is (et_test (ev_inN (K := K) (ev_var rfl) (ea_cons ev_c (ea_cons ev_c ea_nil)) rfl rfl (by show 2 ≤ 900; decide))) (by decide)) (fun _ H1 e1 => ?_) (fun z => nomatch z)
      have ee := ee.trans e1
      exact s_retZ (ez_lst (ezs_cons (ez_fld (hE.mono ee) T.ec_NoEntry T.npath_NoEntry rfl (Dz.keep (keepD_ex ee) _ _ zx)) ezs_nil) (by show 1 ≤ 900; decide)) fun v H2 e2 dz => k v H2 (ee.trans e2) dz
    | 11, _, hC, hf, hd =>
      cases hC; cases hf; cases hd
      have ee : Ex H H := Ex.refl H
      refine q_when (b := false) (et_is (et_test (ev_op (ev_var rfl) ev_c (rv_eq rfl))) (by decide)) (fun z => nomatch z) fun _ H1 e1 => ?_
      have ee := ee.trans e1; clear e1
      refine q_when (b := false) (et_is (et_test (ev_inN (K := K) (ev_var rfl) (ea_cons ev_c (ea_cons ev_c (ea_cons ev_c (ea_cons ev_c ea_nil)))) rfl rfl (by show 4 ≤ 900; decide))) (by decide)) (fun z => nomatch z) fun _ H1 e1 => ?_
      have ee := ee.trans e1; clear e1
      refine q_when (b := false) (et_is (et_test (ev_inN (K := K) (ev_var rfl) (ea_cons ev_c (ea_cons ev_c ea_nil)) rfl rfl (by show 2 ≤ 900; decide))) (by decide)) (fun z => nomatch z) fun _ H1 e1 => ?_
      have ee := ee.trans e1; clear e1
      refine q_when (b := false) (et_is (et_test (ev_op (ev_var rfl) ev_c (rv_eq rfl))) (by decide)) (fun z => nomatch z) fun _ H1 e1 => ?_
      have ee := ee.trans e1; clear e1
      refine q_when (b := false) (et_is (et_test (ev_inN (K := K) (ev_var rfl) (ea_cons ev_c (ea_cons ev_c ea_nil)) rfl rfl (by show 2 ≤ 900; decide))) (by decide)) (fun z => nomatch z) fun _ H1 e1 => ?_
      have ee := ee.trans e1; clear e1
      refine q_when (b := true) (et_is (et_test (ev_inN (K := K) (ev_var rfl) (ea_cons ev_c (ea_cons ev_c ea_nil)) rfl rfl (by show 2 ≤ 900; decide))) (by decide)) (fun _ H1 e1 => ?_) (fun z => nomatch z)
      have ee := ee.trans e1
      exact s_retZ (ez_lst (ezs_cons (ez_fld (hE.mono ee) T.ec_NoCommand T.nindex_NoCommand rfl (Dz.keep (keepD_ex ee) _ _ zx)) ezs_nil) (by show 1 ≤ 900; decide)) fun v H2 e2 dz => k v H2 (ee.trans e2) dz
    | 12, _, hC, hf, hd =>
      cases hC; cases hf; cases hd
      have ee : Ex H H := Ex.refl H
      refine q_when (b := false) (et_is (et_test (ev_op (ev_var rfl) ev_c (rv_eq rfl))) (by decide)) (fun z => nomatch z) fun _ H1 e1 => ?_
      have ee := ee.trans e1; clear e1
      refine q_when (b := false) (et_is (et_test (ev_inN (K := K) (ev_var rfl) (ea_cons ev_c (ea_cons ev_c (ea_cons ev_c (ea_cons ev_c ea_nil)))) rfl rfl (by show 4 ≤ 900; decide))) (by decide)) (fun z => nomatch z) fun _ H1 e1 => ?_
      have ee := ee.trans e1; clear e1
      refine q_when (b := false) (et_is (et_test (ev_inN (K := K) (ev_var rfl) (ea_cons ev_c (ea_cons ev_c ea_nil)) rfl rfl (by show 2 ≤ 900; decide))) (by decide)) (fun z => nomatch z) fun _ H1 e1 => ?_
      have ee := ee.trans e1; clear e1
      refine q_when (b := false) (et_is (et_test (ev_op (ev_var rfl) ev_c (rv_eq rfl))) (by decide)) (fun z => nomatch z) fun _ H1 e1 => ?_
      have ee := ee.trans e1; clear e1
      refine q_when (b := false) (et_is (et_test (ev_inN (K := K) (ev_var rfl) (ea_cons ev_c (ea_cons ev_c ea_nil)) rfl rfl (by show 2 ≤ 900; decide))) (by decide)) (fun z => nomatch z) fun _ H1 e1 => ?_
      have ee := ee.trans e1; clear e1
      refine q_when (b := false) (et_is (et_test (ev_inN (K := K) (ev_var rfl) (ea_cons ev_c (ea_cons ev_c ea_nil)) rfl rfl (by show 2 ≤ 900; decide))) (by decide)) (fun z => nomatch z) fun _ H1 e1 => ?_
      have ee := ee.trans e1; clear e1
      refine q_when (b := true) (et_is (et_test (ev_op (ev_var rfl) ev_c (rv_eq rfl))) (by decide)) (fun _ H1 e1 => ?_) (fun z => nomatch z)
      have ee := ee.trans e1
      exact s_retZ (ez_lst (ezs_cons (ez_fld (hE.mono ee) T.ec_NoStand T.njoint_NoStand rfl (Dz.keep (keepD_ex ee) _ _ zx)) ezs_nil) (by show 1 ≤ 900; decide)) fun v H2 e2 dz => k v H2 (ee.trans e2) dz
    | 13, _, hC, hf, hd =>
      cases hC; cases hf; cases hd
      have ee : Ex H H := Ex.refl H
      refine q_when (b := false) (et_is (et_test (ev_op (ev_var rfl) ev_c (rv_eq rfl))) (by decide)) (fun z => nomatch z) fun _ H1 e1 => ?_
      have ee := ee.trans e1; clear e1
      refine q_when (b := false) (et_is (et_test (ev_inN (K := K) (ev_var rfl) (ea_cons ev_c (ea_cons ev_c (ea_cons ev_c (ea_cons ev_c ea_nil)))) rfl rfl (by show 4 ≤ 900; decide))) (by decide)) (fun z => nomatch z) fun _ H1 e1 => ?_
      have ee := ee.trans e1; clear e1
      refine q_when (b := false) (et_is (et_test (ev_inN (K := K) (ev_var rfl) (ea_cons ev_c (ea_cons ev_c ea_nil)) rfl rfl (by show 2 ≤ 900; decide))) (by decide)) (fun z => nomatch z) fun _ H1 e1 => ?_
      have ee := ee.trans e1; clear e1
      refine q_when (b := false) (et_is (et_test (ev_op (ev_var rfl) ev_c (rv_eq rfl))) (by decide)) (fun z => nomatch z) fun _ H1 e1 => ?_
      have ee := ee.trans e1; clear e1
      refine q_when (b := false) (et_is (et_test (ev_inN (K := K) (ev_var rfl) (ea_cons ev_c (ea_cons ev_c ea_nil)) rfl rfl (by show 2 ≤ 900; decide))) (by decide)) (fun z => nomatch z) fun _ H1 e1 => ?_
      have ee := ee.trans e1; clear e1
      refine q_when (b := false) (et_is (et_test (ev_inN (K := K) (ev_var rfl) (ea_cons ev_c (ea_cons ev_c ea_nil)) rfl rfl (by show 2 ≤ 900; decide))) (by decide)) (fun z => nomatch z) fun _ H1 e1 => ?_
      have ee := ee.trans e1; clear e1
      refine q_when (b := false) (et_is (et_test (ev_op (ev_var rfl) ev_c (rv_eq rfl))) (by decide)) (fun z => nomatch z) fun _ H1 e1 => ?_
      have ee := ee.trans e1; clear e1
      exact s_retZ (ez_if (b := true) (et_is (et_test (ev_op (ev_var rfl) ev_c (rv_eq rfl))) (by decide)) (fun _ => ez_lst (ezs_cons (ez_fld (hE.mono ee) T.ec_TooMany T.nmost_TooMany rfl (Dz.keep (keepD_ex ee) _ _ zx)) ezs_nil) (by show 1 ≤ 900; decide)) (fun z => nomatch z)) fun v H2 e2 dz => k v H2 (ee.trans e2) dz
    | 14, _, hC, hf, hd =>
      cases hC; cases hf; cases hd
      have ee : Ex H H := Ex.refl H
      refine q_when (b := false) (et_is (et_test (ev_op (ev_var rfl) ev_c (rv_eq rfl))) (by decide)) (fun z => nomatch z) fun _ H1 e1 => ?_
      have ee := ee.trans e1; clear e1
      refine q_when (b := false) (et_is (et_test (ev_inN (K := K) (ev_var rfl) (ea_cons ev_c (ea_cons ev_c (ea_cons ev_c (ea_cons ev_c ea_nil)))) rfl rfl (by show 4 ≤ 900; decide))) (by decide)) (fun z => nomatch z) fun _ H1 e1 => ?_
      have ee := ee.trans e1; clear e1
      refine q_when (b := false) (et_is (et_test (ev_inN (K := K) (ev_var rfl) (ea_cons ev_c (ea_cons ev_c ea_nil)) rfl rfl (by show 2 ≤ 900; decide))) (by decide)) (fun z => nomatch z) fun _ H1 e1 => ?_
      have ee := ee.trans e1; clear e1
      refine q_when (b := false) (et_is (et_test (ev_op (ev_var rfl) ev_c (rv_eq rfl))) (by decide)) (fun z => nomatch z) fun _ H1 e1 => ?_
      have ee := ee.trans e1; clear e1
      refine q_when (b := false) (et_is (et_test (ev_inN (K := K) (ev_var rfl) (ea_cons ev_c (ea_cons ev_c ea_nil)) rfl rfl (by show 2 ≤ 900; decide))) (by decide)) (fun z => nomatch z) fun _ H1 e1 => ?_
      have ee := ee.trans e1; clear e1
      refine q_when (b := false) (et_is (et_test (ev_inN (K := K) (ev_var rfl) (ea_cons ev_c (ea_cons ev_c ea_nil)) rfl rfl (by show 2 ≤ 900; decide))) (by decide)) (fun z => nomatch z) fun _ H1 e1 => ?_
      have ee := ee.trans e1; clear e1
      refine q_when (b := false) (et_is (et_test (ev_op (ev_var rfl) ev_c (rv_eq rfl))) (by decide)) (fun z => nomatch z) fun _ H1 e1 => ?_
      have ee := ee.trans e1; clear e1
      exact s_retZ (ez_if (b := false) (et_is (et_test (ev_op (ev_var rfl) ev_c (rv_eq rfl))) (by decide)) (fun z => nomatch z) (fun _ => ez_lst ezs_nil (by show 0 ≤ 900; decide))) fun v H2 e2 dz => k v H2 (ee.trans e2) dz
    | n + 15, hn, _, _, _ => exact absurd hn (by omega)
end
end KO
set_option Elab.async false
set_option linter.all false
set_option maxRecDepth 100000
set_option maxHeartbeats 4000000
namespace KO
open PySem PySem.Spec PyProof.Rows L2 Evl KF
local macro_rules | `(tactic| walk_at "ev") => `(tactic| repeat' (first | exact ev_c | exact ev_var rfl | exact rv_I0 | refine' rv_I ?_ | refine' rv_eq ?_ | refine' rv_ne ?_ | refine' ev_op ?_ ?_ ?_ | exact ea_nil | refine' ea_cons ?_ ?_ | refine' et_test ?_ | refine' et_B ?_ | refine' et_not ?_ | refine' ev_notV ?_))

open PySem LamX
/-! ### the classes of an error -/
def bsN (n : Nat) : Nat := if n < 10 then 15 else 16
def isN (n j : Nat) : Bool := j == n || j == bsN n || j == 17
def clsB (n : Nat) : List Bool := (List.range 15).map (fun j => decide (j = n)) ++ [decide (n < 10), decide (10 ≤ n), true, true]
theorem clsB_is : ∀ n, n < 15 → [isN n 0, isN n 1, isN n 2, isN n 3, isN n 4, isN n 5, isN n 6, isN n 7, isN n 8, isN n 9, isN n 10, isN n 11, isN n 12, isN n 13, isN n 14, isN n 15, isN n 16, isN n 17, true] = clsB n := fun n hn => of_decide_eq_true (all_nat (p := fun n => decide ([isN n 0, isN n 1, isN n 2, isN n 3, isN n 4, isN n 5, isN n 6, isN n 7, isN n 8, isN n 9, isN n 10, isN n 11, isN n 12, isN n 13, isN n 14, isN n 15, isN n 16, isN n 17, true] = clsB n)) (by decide) n hn)
section
variable {w : World} {K : PySem.W.Frag} {mg : Str → Option Value} {a : Ads}
theorem mro_at (T : Txt w K mg a) : ∀ n, n < 15 → ∀ C, a.all[n]? = some C → ∃ B, a.all[bsN n]? = some B ∧ MroIs K C [.ref C, .ref B, .ref a.x_ModesError, .type "ValueError", .type "Exception", .type "BaseException", .type "object"] ∧ ExcC K C ∧ (PySem.W.clsIn K C).isSome = true
  | 0, _, C, hC => by
    cases hC
    exact ⟨a.x_BadInput, rfl, T.mr_BadMode, T.ec_BadMode, T.ci_BadMode⟩
  | 1, _, C, hC => by
    cases hC
    exact ⟨a.x_BadInput, rfl, T.mr_BadClause, T.ec_BadClause, T.ci_BadClause⟩
  | 2, _, C, hC => by
    cases hC
    exact ⟨a.x_BadInput, rfl, T.mr_BadName, T.ec_BadName, T.ci_BadName⟩
  | 3, _, C, hC => by
    cases hC
    exact ⟨a.x_BadInput, rfl, T.mr_BadPath, T.ec_BadPath, T.ci_BadPath⟩
  | 4, _, C, hC => by
    cases hC
    exact ⟨a.x_BadInput, rfl, T.mr_BadUser, T.ec_BadUser, T.ci_BadUser⟩
  | 5, _, C, hC => by
    cases hC
    exact ⟨a.x_BadInput, rfl, T.mr_BadCommand, T.ec_BadCommand, T.ci_BadCommand⟩
  | 6, _, C, hC => by
    cases hC
    exact ⟨a.x_BadInput, rfl, T.mr_BadKind, T.ec_BadKind, T.ci_BadKind⟩
  | 7, _, C, hC => by
    cases hC
    exact ⟨a.x_BadInput, rfl, T.mr_BadStand, T.ec_BadStand, T.ci_BadStand⟩
  | 8, _, C, hC => by
    cases hC
    exact ⟨a.x_BadInput, rfl, T.mr_BadBeat, T.ec_BadBeat, T.ci_BadBeat⟩
  | 9, _, C, hC => by
    cases hC
    exact ⟨a.x_BadInput, rfl, T.mr_BadText, T.ec_BadText, T.ci_BadText⟩
  | 10, _, C, hC => by
    cases hC
    exact ⟨a.x_NoWay, rfl, T.mr_NoEntry, T.ec_NoEntry, T.ci_NoEntry⟩
  | 11, _, C, hC => by
    cases hC
    exact ⟨a.x_NoWay, rfl, T.mr_NoCommand, T.ec_NoCommand, T.ci_NoCommand⟩
  | 12, _, C, hC => by
    cases hC
    exact ⟨a.x_NoWay, rfl, T.mr_NoStand, T.ec_NoStand, T.ci_NoStand⟩
  | 13, _, C, hC => by
    cases hC
    exact ⟨a.x_NoWay, rfl, T.mr_TooMany, T.ec_TooMany, T.ci_TooMany⟩
  | 14, _, C, hC => by
    cases hC
    exact ⟨a.x_NoWay, rfl, T.mr_NoKind, T.ec_NoKind, T.ci_NoKind⟩
  | n + 15, hn, _, _ => absurd hn (by omega)
theorem all_ne (T : Txt w K mg a) {i j : Nat} {A B : Addr} (hA : a.all[i]? = some A) (hB : a.all[j]? = some B) : (Value.ref A == Value.ref B) = (i == j) := by
  by_cases e : i = j
  · subst e
    rw [hA] at hB
    cases hB
    simp
  · have ne : A ≠ B := fun z => by
      subst z
      obtain ⟨hi, h1⟩ := List.getElem?_eq_some_iff.mp hA
      obtain ⟨hj, h2⟩ := List.getElem?_eq_some_iff.mp hB
      have pw := List.pairwise_iff_getElem.mp (show a.all.Pairwise (· ≠ ·) from T.nd)
      rcases Nat.lt_or_gt_of_ne e with z | z
      · exact pw i j hi hj z (h1.trans h2.symm)
      · exact pw j i hj hi z (h2.trans h1.symm)
    rw [beq_eq_false_iff_ne.mpr e]
    exact beq_eq_false_iff_ne.mpr (fun z => ne (by cases z; rfl))
theorem kit_mro {D B : Addr} {l : List Value} (m : MroIs K D l) (h0 : l.contains (.ref D) = true) (ci : (PySem.W.clsIn K B).isSome = true) (ti : PySem.W.typeIn K (.ref B) = some (.type "type")) : PySem.W.kitOne K (.ref D) (.ref B) = some (l.contains (.ref B)) := by
  obtain ⟨cd, h1, rfl⟩ := m
  unfold PySem.W.kitOne
  by_cases e : (Value.ref D == Value.ref B) = true
  · rw [if_pos e]
    rw [← beq_iff_eq.mp e, h0]
  · rw [if_neg e]
    show (if ((PySem.W.clsIn K B).isSome && PySem.W.typeIn K (.ref B) == some (.type "type")) = true then PySem.W.subIn K (.ref D) (.ref B) else none) = _
    rw [if_pos (by rw [ci, ti]; simp)]
    show (PySem.W.clsIn K D).bind _ = _
    rw [h1, Option.bind_some, if_neg]
    intro z
    rw [List.isEmpty_iff.mp z] at h0
    cases h0
theorem kit_at (T : Txt w K mg a) {n j : Nat} {C B : Addr} (hn : n < 15) (hC : a.all[n]? = some C) (hB : a.all[j]? = some B) (ci : (PySem.W.clsIn K B).isSome = true) (ti : PySem.W.typeIn K (.ref B) = some (.type "type")) : PySem.W.kitOne K (.ref C) (.ref B) = some (isN n j) := by
  obtain ⟨D, hD, m, _, _⟩ := mro_at T n hn C hC
  rw [kit_mro m (by rw [List.contains_cons, beq_self_eq_true, Bool.true_or]) ci ti]
  congr 1
  have t : ∀ z : String, (Value.ref B == Value.type z) = false := fun z => beq_eq_false_iff_ne.mpr (fun q => nomatch q)
  simp only [List.contains_cons, all_ne T hB hC, all_ne T hB hD, all_ne T hB (show a.all[17]? = some a.x_ModesError from rfl), t, List.contains_nil, Bool.or_false]
  unfold isN
  rw [Bool.or_assoc]
theorem kit_veN (T : Txt w K mg a) {n : Nat} {C : Addr} (hn : n < 15) (hC : a.all[n]? = some C) : PySem.W.kitOne K (.ref C) (.type "ValueError") = some true := by
  obtain ⟨D, hD, ⟨cd, h1, h2⟩, _, _⟩ := mro_at T n hn C hC
  unfold PySem.W.kitOne
  rw [if_neg (fun h => by have := beq_iff_eq.mp h; cases this)]
  show (if PySem.W.kitMeta "ValueError" = true then PySem.W.subIn K (.ref C) (.type "ValueError") else none) = some true
  rw [if_pos (by decide +kernel)]
  show (PySem.W.clsIn K C).bind _ = _
  rw [h1, Option.bind_some, h2]
  rfl
end
section
variable {K : PySem.W.Frag} {σ : L2.St} {H : Hp} {te tc t1 t2 : TE} {xs ys : List V} {l l2 : Addr}
theorem ev_isV {e C : Addr} {fs : List (Str × V)} {c : V} {cv : Value} {b : Bool} (ec : ExcC K C) (ci : (PySem.W.clsIn K C).isSome = true) (hE : ExV H e C fs) (hv : Ev te σ H (.ref e)) (hc : Ev tc σ H c) (rel : ∀ u, RelV c u → u = cv) (k : PySem.W.kitOne K (.ref C) cv = some b) : Ev (tCB (rIsV K) (tCons te (tCons tc tNil))) σ H (.bl b) := fun H1 e1 Q q =>
  hv H1 e1 _ fun H2 e2 => hc H2 (e1.trans e2) _ fun H3 e3 => ⟨e, C, fs, c, cv, b, rfl, rel, ec, ci, hE.mono ((e1.trans e2).trans e3), k, q H3 (e2.trans e3)⟩
theorem el_catV (h1 : Ev t1 σ H (.ref l)) (hl : H l = some (.lst xs)) (h2 : EvL t2 σ H ys) (hz : xs.length + ys.length ≤ 900) : EvL (tOp rCat t1 t2) σ H (xs ++ ys) := fun H1 e1 Q q =>
  h1 H1 e1 _ fun H2 e2 => h2 H2 (e1.trans e2) _ fun p H3 hp e3 h3 => ⟨l, p, xs, ys, rfl, rfl, e3 _ _ (e2 _ _ (e1 _ _ hl)), h3, by rw [sizeLine_eq]; omega, fun r hr => q r _ (fresh_back (e2.trans e3) hr) ((e2.trans e3).trans (Ex.new hr)) upd_same⟩
theorem el_catVV (h1 : Ev t1 σ H (.ref l)) (hl : H l = some (.lst xs)) (h2 : Ev t2 σ H (.ref l2)) (hl2 : H l2 = some (.lst ys)) (hz : xs.length + ys.length ≤ 900) : EvL (tOp rCat t1 t2) σ H (xs ++ ys) := fun H1 e1 Q q =>
  h1 H1 e1 _ fun H2 e2 => h2 H2 (e1.trans e2) _ fun H3 e3 => ⟨l, l2, xs, ys, rfl, rfl, e3 _ _ (e2 _ _ (e1 _ _ hl)), e3 _ _ (e2 _ _ (e1 _ _ hl2)), by rw [sizeLine_eq]; omega, fun r hr => q r _ (fresh_back (e2.trans e3) hr) ((e2.trans e3).trans (Ex.new hr)) upd_same⟩
theorem el_catL (h1 : EvL t1 σ H xs) (h2 : EvL t2 σ H ys) (hz : xs.length + ys.length ≤ 900) : EvL (tOp rCat t1 t2) σ H (xs ++ ys) := fun H1 e1 Q q =>
  h1 H1 e1 _ fun l H2 hl e2 hx => h2 H2 (e1.trans e2) _ fun p H3 hp e3 h3 => ⟨l, p, xs, ys, rfl, rfl, e3 _ _ hx, h3, by rw [sizeLine_eq]; omega, fun r hr => q r _ (fresh_back (e2.trans e3) hr) ((e2.trans e3).trans (Ex.new hr)) upd_same⟩
end
def spClasses (a : Ads) : Sp := fun vs H Q _ => ∃ (n : Nat) (e C : Addr) (fs : List (Str × V)), vs = [.ref e] ∧ a.all[n]? = some C ∧ n < 15 ∧ ExV H e C fs ∧ ∀ l H', H l = none → Ex H H' → H' l = some (.lst ((clsB n).map V.bl)) → Q (.ref l) H'
section
variable {P : Program} {w : World} {K : PySem.W.Frag} {mg : Str → Option Value} {base : Heap} {a : Ads}
theorem ok_classes (T : Txt w K mg a) : FnOk P w K mg base CX0 1 a.f__law_classes a.d__law_classes ["_law_error"] (spClasses a) := by
  refine T.fn__law_classes.ok sc__law_classes (fun vs H Q E h => ?_) (fun cdv A outer s H vs Q E hr h => ?_)
  · obtain ⟨_, _, _, _, rfl, _⟩ := h
    rfl
  · obtain ⟨n, e, C, fs, rfl, hC, hn, hE, k⟩ := h
    obtain ⟨_, _, _, ec, ci⟩ := mro_at T n hn C hC
    have kve := kit_veN T hn hC
    refine ⟨_, (pss_cons (ps_set (i := 1) sc__law_classes.nd rfl (Or.inl rfl) (pe_lst (pa_cons (pe_callB call_isV (by rfl) T.b_isinstance PyProof.Rows.boot_isinstance (pa_cons (pv 0) (pa_cons (pe_glob (v := .ref a.x_BadMode) rfl T.mg_BadMode rfl) pa_nil))) (pa_cons (pe_callB call_isV (by rfl) T.b_isinstance PyProof.Rows.boot_isinstance (pa_cons (pv 0) (pa_cons (pe_glob (v := .ref a.x_BadClause) rfl T.mg_BadClause rfl) pa_nil))) (pa_cons (pe_callB call_isV (by rfl) T.b_isinstance PyProof.Rows.boot_isinstance (pa_cons (pv 0) (pa_cons (pe_glob (v := .ref a.x_BadName) rfl T.mg_BadName rfl) pa_nil))) pa_nil)))))
    (pss_cons (ps_set (i := 1) sc__law_classes.nd rfl (Or.inl rfl) (pe_op op_cat (pv 1) (pe_lst (pa_cons (pe_callB call_isV (by rfl) T.b_isinstance PyProof.Rows.boot_isinstance (pa_cons (pv 0) (pa_cons (pe_glob (v := .ref a.x_BadPath) rfl T.mg_BadPath rfl) pa_nil))) (pa_cons (pe_callB call_isV (by rfl) T.b_isinstance PyProof.Rows.boot_isinstance (pa_cons (pv 0) (pa_cons (pe_glob (v := .ref a.x_BadUser) rfl T.mg_BadUser rfl) pa_nil))) (pa_cons (pe_callB call_isV (by rfl) T.b_isinstance PyProof.Rows.boot_isinstance (pa_cons (pv 0) (pa_cons (pe_glob (v := .ref a.x_BadCommand) rfl T.mg_BadCommand rfl) pa_nil))) pa_nil))))))
    (pss_cons (ps_set (i := 1) sc__law_classes.nd rfl (Or.inl rfl) (pe_op op_cat (pv 1) (pe_lst (pa_cons (pe_callB call_isV (by rfl) T.b_isinstance PyProof.Rows.boot_isinstance (pa_cons (pv 0) (pa_cons (pe_glob (v := .ref a.x_BadKind) rfl T.mg_BadKind rfl) pa_nil))) (pa_cons (pe_callB call_isV (by rfl) T.b_isinstance PyProof.Rows.boot_isinstance (pa_cons (pv 0) (pa_cons (pe_glob (v := .ref a.x_BadStand) rfl T.mg_BadStand rfl) pa_nil))) (pa_cons (pe_callB call_isV (by rfl) T.b_isinstance PyProof.Rows.boot_isinstance (pa_cons (pv 0) (pa_cons (pe_glob (v := .ref a.x_BadBeat) rfl T.mg_BadBeat rfl) pa_nil))) pa_nil))))))
    (pss_cons (ps_set (i := 1) sc__law_classes.nd rfl (Or.inl rfl) (pe_op op_cat (pv 1) (pe_lst (pa_cons (pe_callB call_isV (by rfl) T.b_isinstance PyProof.Rows.boot_isinstance (pa_cons (pv 0) (pa_cons (pe_glob (v := .ref a.x_BadText) rfl T.mg_BadText rfl) pa_nil))) (pa_cons (pe_callB call_isV (by rfl) T.b_isinstance PyProof.Rows.boot_isinstance (pa_cons (pv 0) (pa_cons (pe_glob (v := .ref a.x_NoEntry) rfl T.mg_NoEntry rfl) pa_nil))) (pa_cons (pe_callB call_isV (by rfl) T.b_isinstance PyProof.Rows.boot_isinstance (pa_cons (pv 0) (pa_cons (pe_glob (v := .ref a.x_NoCommand) rfl T.mg_NoCommand rfl) pa_nil))) pa_nil))))))
    (pss_cons (ps_set (i := 1) sc__law_classes.nd rfl (Or.inl rfl) (pe_op op_cat (pv 1) (pe_lst (pa_cons (pe_callB call_isV (by rfl) T.b_isinstance PyProof.Rows.boot_isinstance (pa_cons (pv 0) (pa_cons (pe_glob (v := .ref a.x_NoStand) rfl T.mg_NoStand rfl) pa_nil))) (pa_cons (pe_callB call_isV (by rfl) T.b_isinstance PyProof.Rows.boot_isinstance (pa_cons (pv 0) (pa_cons (pe_glob (v := .ref a.x_TooMany) rfl T.mg_TooMany rfl) pa_nil))) (pa_cons (pe_callB call_isV (by rfl) T.b_isinstance PyProof.Rows.boot_isinstance (pa_cons (pv 0) (pa_cons (pe_glob (v := .ref a.x_NoKind) rfl T.mg_NoKind rfl) pa_nil))) pa_nil))))))
    (pss_cons (ps_set (i := 2) sc__law_classes.nd rfl (Or.inl rfl) (pe_lst (pa_cons (pe_callB call_isV (by rfl) T.b_isinstance PyProof.Rows.boot_isinstance (pa_cons (pv 0) (pa_cons (pe_glob (v := .ref a.x_BadInput) rfl T.mg_BadInput rfl) pa_nil))) (pa_cons (pe_callB call_isV (by rfl) T.b_isinstance PyProof.Rows.boot_isinstance (pa_cons (pv 0) (pa_cons (pe_glob (v := .ref a.x_NoWay) rfl T.mg_NoWay rfl) pa_nil))) (pa_cons (pe_callB call_isV (by rfl) T.b_isinstance PyProof.Rows.boot_isinstance (pa_cons (pv 0) (pa_cons (pe_glob (v := .ref a.x_ModesError) rfl T.mg_ModesError rfl) pa_nil))) pa_nil)))))
    (pss_one (ps_ret (pe_op op_cat (pe_op op_cat (pv 1) (pv 2)) (pe_lst (pa_cons (pe_callB call_isV (by rfl) T.b_isinstance PyProof.Rows.boot_isinstance (pa_cons (pv 0) (pa_cons (pe_bltn (v := .ty "ValueError") (by rfl) T.b_ValueError PyProof.Rows.Boot.«ValueError» rfl) pa_nil))) pa_nil))))))))))), ?_⟩
    refine q_asgL (xs := [.bl (isN n 0), .bl (isN n 1), .bl (isN n 2)]) (el_lst (ea_cons (ev_isV ec ci hE (ev_var rfl) ev_c (fun _ r => r) (kit_at T hn hC (j := 0) rfl T.ci_BadMode T.ti_BadMode)) (ea_cons (ev_isV ec ci hE (ev_var rfl) ev_c (fun _ r => r) (kit_at T hn hC (j := 1) rfl T.ci_BadClause T.ti_BadClause)) (ea_cons (ev_isV ec ci hE (ev_var rfl) ev_c (fun _ r => r) (kit_at T hn hC (j := 2) rfl T.ci_BadName T.ti_BadName)) ea_nil))) (by show 3 ≤ 100000; decide)) fun l0 H1 hl0 e1 h1 => ?_
    replace hE := hE.mono e1
    refine q_asgL (xs := [.bl (isN n 0), .bl (isN n 1), .bl (isN n 2), .bl (isN n 3), .bl (isN n 4), .bl (isN n 5)]) (el_catV (ev_var rfl) h1 (el_lst (ea_cons (ev_isV ec ci hE (ev_var rfl) ev_c (fun _ r => r) (kit_at T hn hC (j := 3) rfl T.ci_BadPath T.ti_BadPath)) (ea_cons (ev_isV ec ci hE (ev_var rfl) ev_c (fun _ r => r) (kit_at T hn hC (j := 4) rfl T.ci_BadUser T.ti_BadUser)) (ea_cons (ev_isV ec ci hE (ev_var rfl) ev_c (fun _ r => r) (kit_at T hn hC (j := 5) rfl T.ci_BadCommand T.ti_BadCommand)) ea_nil))) (by show 3 ≤ 100000; decide)) (by show 6 ≤ 900; decide)) fun l1 H2 hl1 e2 h2 => ?_
    replace hE := hE.mono e2
    refine q_asgL (xs := [.bl (isN n 0), .bl (isN n 1), .bl (isN n 2), .bl (isN n 3), .bl (isN n 4), .bl (isN n 5), .bl (isN n 6), .bl (isN n 7), .bl (isN n 8)]) (el_catV (ev_var rfl) h2 (el_lst (ea_cons (ev_isV ec ci hE (ev_var rfl) ev_c (fun _ r => r) (kit_at T hn hC (j := 6) rfl T.ci_BadKind T.ti_BadKind)) (ea_cons (ev_isV ec ci hE (ev_var rfl) ev_c (fun _ r => r) (kit_at T hn hC (j := 7) rfl T.ci_BadStand T.ti_BadStand)) (ea_cons (ev_isV ec ci hE (ev_var rfl) ev_c (fun _ r => r) (kit_at T hn hC (j := 8) rfl T.ci_BadBeat T.ti_BadBeat)) ea_nil))) (by show 3 ≤ 100000; decide)) (by show 9 ≤ 900; decide)) fun l2 H3 hl2 e3 h3 => ?_
    replace hE := hE.mono e3
    refine q_asgL (xs := [.bl (isN n 0), .bl (isN n 1), .bl (isN n 2), .bl (isN n 3), .bl (isN n 4), .bl (isN n 5), .bl (isN n 6), .bl (isN n 7), .bl (isN n 8), .bl (isN n 9), .bl (isN n 10), .bl (isN n 11)]) (el_catV (ev_var rfl) h3 (el_lst (ea_cons (ev_isV ec ci hE (ev_var rfl) ev_c (fun _ r => r) (kit_at T hn hC (j := 9) rfl T.ci_BadText T.ti_BadText)) (ea_cons (ev_isV ec ci hE (ev_var rfl) ev_c (fun _ r => r) (kit_at T hn hC (j := 10) rfl T.ci_NoEntry T.ti_NoEntry)) (ea_cons (ev_isV ec ci hE (ev_var rfl) ev_c (fun _ r => r) (kit_at T hn hC (j := 11) rfl T.ci_NoCommand T.ti_NoCommand)) ea_nil))) (by show 3 ≤ 100000; decide)) (by show 12 ≤ 900; decide)) fun l3 H4 hl3 e4 h4 => ?_
    replace hE := hE.mono e4
    refine q_asgL (xs := [.bl (isN n 0), .bl (isN n 1), .bl (isN n 2), .bl (isN n 3), .bl (isN n 4), .bl (isN n 5), .bl (isN n 6), .bl (isN n 7), .bl (isN n 8), .bl (isN n 9), .bl (isN n 10), .bl (isN n 11), .bl (isN n 12), .bl (isN n 13), .bl (isN n 14)]) (el_catV (ev_var rfl) h4 (el_lst (ea_cons (ev_isV ec ci hE (ev_var rfl) ev_c (fun _ r => r) (kit_at T hn hC (j := 12) rfl T.ci_NoStand T.ti_NoStand)) (ea_cons (ev_isV ec ci hE (ev_var rfl) ev_c (fun _ r => r) (kit_at T hn hC (j := 13) rfl T.ci_TooMany T.ti_TooMany)) (ea_cons (ev_isV ec ci hE (ev_var rfl) ev_c (fun _ r => r) (kit_at T hn hC (j := 14) rfl T.ci_NoKind T.ti_NoKind)) ea_nil))) (by show 3 ≤ 100000; decide)) (by show 15 ≤ 900; decide)) fun l4 H5 hl4 e5 h5 => ?_
    replace hE := hE.mono e5
    refine q_asgL (xs := [.bl (isN n 15), .bl (isN n 16), .bl (isN n 17)]) (el_lst (ea_cons (ev_isV ec ci hE (ev_var rfl) ev_c (fun _ r => r) (kit_at T hn hC (j := 15) rfl T.ci_BadInput T.ti_BadInput)) (ea_cons (ev_isV ec ci hE (ev_var rfl) ev_c (fun _ r => r) (kit_at T hn hC (j := 16) rfl T.ci_NoWay T.ti_NoWay)) (ea_cons (ev_isV ec ci hE (ev_var rfl) ev_c (fun _ r => r) (kit_at T hn hC (j := 17) rfl T.ci_ModesError T.ti_ModesError)) ea_nil))) (by show 3 ≤ 100000; decide)) fun l5 H6 hl5 e6 h6 => ?_
    replace hE := hE.mono e6
    refine s_retL (el_catL (el_catVV (ev_var rfl) (e6 _ _ h5) (ev_var rfl) h6 (by show 18 ≤ 900; decide)) (el_lst (vs := [.bl true]) (ea_cons (ev_isV ec ci hE (ev_var rfl) ev_c (fun _ r => r) kve) ea_nil) (by show 1 ≤ 100000; decide)) (by show 19 ≤ 900; decide)) fun l H7 hl e7 h7 => ?_
    have ee := (((((e1.trans e2).trans e3).trans e4).trans e5).trans e6)
    exact k l H7 (fresh_back ee hl) (ee.trans e7) (by rw [h7, ← clsB_is n hn]; rfl)
end
end KO
set_option Elab.async false
set_option linter.all false
set_option maxRecDepth 100000
set_option maxHeartbeats 4000000
namespace KO
open PySem PySem.Spec PyProof.Rows L2 Evl KF
local macro_rules | `(tactic| walk_at "ev") => `(tactic| repeat' (first | exact ev_c | exact ev_var rfl | exact rv_I0 | refine' rv_I ?_ | refine' rv_eq ?_ | refine' rv_ne ?_ | refine' ev_op ?_ ?_ ?_ | exact ea_nil | refine' ea_cons ?_ ?_ | refine' et_test ?_ | refine' et_B ?_ | refine' et_not ?_ | refine' ev_notV ?_))

open PySem LamX KD
theorem BagAt.keepN {H H' : Hp} {p : Addr} (h : BagAt H p) (e : ExtN H H') : BagAt H' p := by
  obtain ⟨l, ns, at_, rest, state, h1, h2, h3⟩ := h
  exact ⟨l, ns, at_, rest, state, e _ _ h1 (fun _ z => nomatch z), e _ _ h2 (fun _ z => nomatch z), h3⟩
theorem tabs_exB {T : List (Addr × Str)} {H H' : Hp} {p : Addr} (t : Tabs T H) (hb : BagAt H p) (e : ExB p H H') : Tabs T H' := fun q hq => by
  obtain ⟨ps, h1, tr, h2⟩ := t q hq
  obtain ⟨l, ns, at_, r, s, hd, _⟩ := hb
  refine ⟨ps, e _ _ h1 (ne_of h1 hd fun z => nomatch z), tr, fun pos cv hc => ?_⟩
  obtain ⟨c, e1, e2⟩ := h2 pos cv hc
  exact ⟨c, e1, e _ _ e2 (ne_of e2 hd fun z => nomatch z)⟩
theorem tabs_keep {T : List (Addr × Str)} {H H' : Hp} (t : Tabs T H) (e : Ex H H') : Tabs T H' := LamX.Tabs.ext t e
theorem ExV.keepN {H H' : Hp} {a D : Addr} {fs : List (Str × V)} (h : ExV H a D fs) (e : ExtN H H') : ExV H' a D fs := by
  rcases h with ⟨h1, h2⟩ | ⟨dd, h1, h2⟩
  · exact .inl ⟨h1, e _ _ h2 (fun _ => exo_tbl)⟩
  · exact .inr ⟨dd, e _ _ h1 (fun _ => exo_tbl), e _ _ h2 (fun _ z => by unfold exd at z; cases z)⟩
/-! ### what is shown -/
def okD (d : PyData) : Bool := d.showable && decide (d.depth ≤ 60) && decide (d.shown.length ≤ 900)
def twice (ds : List PyData) : PyData := .list [.list ds, .list ds]
theorem ok_twice : ∀ i, i < 12 → ∀ j, j < 12 → okD (twice []) = true ∧ okD (twice [dats.getD i .none]) = true ∧ okD (twice [dats.getD i .none, dats.getD j .none]) = true := fun i hi j hj => by
  have h := all_nat (p := fun i => (List.range 12).all fun j => okD (twice []) && okD (twice [dats.getD i .none]) && okD (twice [dats.getD i .none, dats.getD j .none])) (by decide +kernel) i hi
  have h2 := all_nat h j hj
  simp only [Bool.and_eq_true] at h2
  exact ⟨h2.1.1, h2.1.2, h2.2⟩
theorem dats_at {i : Nat} {d : PyData} (h : dats[i]? = some d) : i < 12 ∧ dats.getD i .none = d := by
  obtain ⟨hi, e⟩ := List.getElem?_eq_some_iff.mp h
  exact ⟨hi, by rw [List.getD_eq_getElem?_getD, h]; rfl⟩
theorem ok_ds {i j n : Nat} {dx dy : PyData} {ds : List PyData} (hi : dats[i]? = some dx) (hj : dats[j]? = some dy) (hd : (dsL dx dy)[n]? = some ds) (hn : n < 15) : okD (twice ds) = true := by
  obtain ⟨i1, e1⟩ := dats_at hi
  obtain ⟨j1, e2⟩ := dats_at hj
  obtain ⟨h0, h1, h2⟩ := ok_twice i i1 j j1
  rw [e1] at h1 h2
  rw [e2] at h2
  match n, hn, hd with
  | 0, _, hd => cases hd; exact h1
  | 1, _, hd => cases hd; exact h1
  | 2, _, hd => cases hd; exact h1
  | 3, _, hd => cases hd; exact h1
  | 4, _, hd => cases hd; exact h1
  | 5, _, hd => cases hd; exact h1
  | 6, _, hd => cases hd; exact h1
  | 7, _, hd => cases hd; exact h1
  | 8, _, hd => cases hd; exact h1
  | 9, _, hd => cases hd; exact h2
  | 10, _, hd => cases hd; exact h1
  | 11, _, hd => cases hd; exact h1
  | 12, _, hd => cases hd; exact h1
  | 13, _, hd => cases hd; exact h1
  | 14, _, hd => cases hd; exact h0
  | n + 15, hn, _ => exact absurd hn (by omega)
section
variable {K : PySem.W.Frag} {σ : L2.St} {H : Hp} {te tw t1 t2 : TE} {ta : TA} {x v : V} {d : PyData} {D : Ends} {tz : TS} {vs : List V} {a : Ads} {E : XK}
theorem q_parD {i j : Nat} (h : t1 σ H fun v H1 => t2 σ H1 fun w H2 => ∃ v' w', [v, w] = [v', w'] ∧ tz D ((σ.set i (some v')).set j (some w')) H2) : tSeq (tPar i j (tCons t1 (tCons t2 tNil))) tz D σ H := h
theorem q_whenC {b : Bool} {t : TT} {tu : TS} (M : L2.St → Hp → Prop) (h : EvT t σ H b) (k : ∀ σ' H', M σ' H' → tz D σ' H') (h1 : b = true → ∀ H1, Ex H H1 → ∀ D', (∀ σ' H', M σ' H' → D'.nx σ' H') → tu D' σ H1) (h2 : b = false → ∀ H1, Ex H H1 → M σ H1) : tSeq (tIfS t tu tNext) tz D σ H :=
  q_when h (fun z H1 e => h1 z H1 e _ k) (fun z H1 e => k _ _ (h2 z H1 e))
theorem s_asgZ {i : Nat} (h : EvZ te σ H d) (k : ∀ v H1, Ex H H1 → Dz H1 v d → D.nx (σ.set i (some v)) H1) : tAsg te (gName i) D σ H := h H (Ex.refl H) _ k
theorem q_asgZ {i : Nat} (h : EvZ te σ H d) (k : ∀ v H1, Ex H H1 → Dz H1 v d → tz D (σ.set i (some v)) H1) : tSeq (tAsg te (gName i)) tz D σ H := h H (Ex.refl H) _ k
theorem ez_var {i : Nat} (hi : σ[i]? = some (some v)) (z : Dz H v d) : EvZ (tVar i) σ H d := fun H1 e Q q => ⟨v, hi, q v H1 (Ex.refl H1) (Dz.keep (keepD_ex e) _ _ z)⟩
theorem ev_reprZ {ds : List PyData} (h : EvZ te σ H (.list ds)) (ok : okD (.list ds) = true) : Ev (tCB rReprZ (tCons te tNil)) σ H (.str (PyData.list ds).shown) := fun H1 e Q q => h H1 e _ fun v H2 e2 z => by
  unfold okD at ok
  simp only [Bool.and_eq_true, decide_eq_true_eq] at ok
  cases z with
  | lst new at_ all => exact ⟨_, _, rfl, .lst new at_ all, ok.1.1, ok.1.2, by rw [sizeLine_eq]; omega, q H2 e2⟩
/-- [x, y][:k] -/
theorem ez_cut {tx ty tk : TE} {y : V} {dx dy : PyData} {k : Nat} (hx : Ev tx σ H x) (hy : Ev ty σ H y) (hk : Ev tk σ H (.int (k : Nat))) (zx : Dz H x dx) (zy : Dz H y dy) (h1 : k = 1 ∨ k = 2) : EvZ (tSl (rSlN K) (tLst (tCons tx (tCons ty tNil))) tNoPart (tPart tk)) σ H (.list (if k = 2 then [dx, dy] else [dx])) := fun H1 e Q q =>
  (el_lst (vs := [x, y]) (ea_cons hx (ea_cons hy ea_nil)) (by show 2 ≤ 100000; decide) : EvL _ σ H _) H1 e _ fun l H2 hl e2 h2 => (eo_none : EvO _ σ H none) H2 (e.trans e2) _ fun H3 e3 => (eo_some hk : EvO _ σ H _) H3 ((e.trans e2).trans e3) _ fun H4 e4 => ⟨l, [x, y], rfl, sq_of (e4 _ _ (e3 _ _ h2)), fun p hp one => q _ _ (((e2.trans e3).trans e4).trans (Ex.new hp)) (by
    have kk : KeepD H (upd H4 p (.lst (cutV [x, y] none (some (k : Nat))))) := keepD_ex ((((e.trans e2).trans e3).trans e4).trans (Ex.new hp))
    rcases h1 with rfl | rfl
    · exact .lst one upd_same (.cons (Dz.keep kk _ _ zx) .nil)
    · exact .lst one upd_same (.cons (Dz.keep kk _ _ zx) (.cons (Dz.keep kk _ _ zy) .nil)))⟩
theorem ez_fields {n : Nat} {e C : Addr} {x y : V} {dx dy : PyData} {fs : List (Str × V)} {ds : List PyData} {i j : Nat} (hi : σ[i]? = some (some (.int n))) (hj : σ[j]? = some (some (.ref e))) (hC : a.all[n]? = some C) (hf : (fsL x y)[n]? = some fs) (hd : (dsL dx dy)[n]? = some ds) (hn : n < 15) (hE : ExV H e C fs) (zx : Dz H x dx) (zy : Dz H y dy) :
    EvZ (tCall (spFields a) [] E (tCons (tVar i) (tCons (tVar j) tNil))) σ H (.list ds) := fun H1 e1 Q q =>
  ⟨.int n, hi, .ref e, hj, n, e, C, x, y, dx, dy, fs, ds, rfl, hC, hf, hd, hn, hE.mono e1, Dz.keep (keepD_ex e1) _ _ zx, Dz.keep (keepD_ex e1) _ _ zy, fun v H2 e2 z => q v H2 e2 z⟩
theorem el_classes {n : Nat} {e C : Addr} {fs : List (Str × V)} {j : Nat} (hj : σ[j]? = some (some (.ref e))) (hC : a.all[n]? = some C) (hn : n < 15) (hE : ExV H e C fs) : EvL (tCall (spClasses a) [] E (tCons (tVar j) tNil)) σ H ((clsB n).map V.bl) := fun H1 e1 Q q =>
  ⟨.ref e, hj, n, e, C, fs, rfl, hC, hn, hE.mono e1, fun l H2 hl e2 h2 => q l H2 hl e2 h2⟩
theorem ev_intB {b : Bool} (h : Ev te σ H (.bl b)) : Ev (tCB (fun xs H Q => (∃ i, xs = [V.int i] ∧ Q (.int i) H) ∨ ∃ k, xs = [V.bl k] ∧ Q (.int (if k then 1 else 0)) H) (tCons te tNil)) σ H (.int (if b then 1 else 0)) := fun H1 e Q q => h H1 e _ fun H2 e2 => .inr ⟨b, rfl, q H2 e2⟩
theorem one_9 (n : Nat) : V.int (1 + (if decide (V.int (n : Nat) = V.int 9) then 1 else 0)) = V.int ((if n = 9 then 2 else 1 : Nat) : Int) := by
  by_cases h : n = 9
  · subst h
    rfl
  · rw [if_neg h, if_neg]
    · rfl
    · intro z
      have z2 := V.int.inj (of_decide_eq_true z)
      omega
theorem fnG_mono {P : Program} {w : World} {K : PySem.W.Frag} {mg : Str → Option Value} {base : Heap} {j k : Nat} {f : Addr} {fd : FuncData} {ps : List Str} {sp : Sp} (F : FnG P w K mg base j f fd ps sp) (h : j ≤ k) : FnG P w K mg base k f fd ps sp := ⟨F.len, fun A gd r => F.run A gd (r.mono h)⟩
theorem cls_eqv : ∀ n, n < 15 → SeqAt.shaped (.list ((clsB n).map PyData.bool)) = true ∧ PyData.eqv (.list ((clsB n).map PyData.bool)) (.list ((clsB n).map PyData.bool)) = true := fun n hn => by
  have h := all_nat (p := fun n => SeqAt.shaped (.list ((clsB n).map PyData.bool)) && PyData.eqv (.list ((clsB n).map PyData.bool)) (.list ((clsB n).map PyData.bool))) (by decide +kernel) n hn
  exact Bool.and_eq_true_iff.mp h
theorem ev_neCls {n : Nat} {l : Addr} (hn : n < 15) (h1 : EvL t1 σ H ((clsB n).map V.bl)) (h2 : Ev t2 σ H (.ref l)) (hl : H l = some (.lst ((clsB n).map V.bl))) : Ev (tOp (rNeD K) t1 t2) σ H (.bl false) := fun H1 e Q q =>
  h1 H1 e _ fun p H2 hp e2 hx => h2 H2 (e.trans e2) _ fun H3 e3 => by
    obtain ⟨s, eq⟩ := cls_eqv n hn
    refine ⟨.list ((clsB n).map PyData.bool), .list ((clsB n).map PyData.bool), .lst (sq_of (e3 _ _ hx)) (dp_bools _), .lst (sq_of (e3 _ _ (e2 _ _ (e _ _ hl)))) (dp_bools _), s, s, ?_⟩
    rw [eq]
    exact q H3 (e2.trans e3)
theorem due_is : ∀ n : Nat, n < 15 → given 15 (fun _ => true) (fun k => V.bl (decide (V.int (k : Nat) = V.int (n : Nat)))) ++ [V.bl (decide ((n : Int) < 10)), V.bl (decide ((10 : Int) ≤ n)), V.bl true, V.bl true] = (clsB n).map V.bl
  | 0, _ => rfl
  | 1, _ => rfl
  | 2, _ => rfl
  | 3, _ => rfl
  | 4, _ => rfl
  | 5, _ => rfl
  | 6, _ => rfl
  | 7, _ => rfl
  | 8, _ => rfl
  | 9, _ => rfl
  | 10, _ => rfl
  | 11, _ => rfl
  | 12, _ => rfl
  | 13, _ => rfl
  | 14, _ => rfl
  | n + 15, hn => absurd hn (by omega)
end
/-! ### the law -/
def spLaw (K : PySem.W.Frag) (a : Ads) : Sp := fun vs H Q _ => ∃ (s : Addr) (ns : List Int), vs = [.ref s] ∧ SqL K H s (ns.map V.int) ∧ ns.length ≤ 63 ∧ H a.PM = some (.tbl #[]) ∧ H a.PN = some (.tbl #[]) ∧ ∀ H', Q (.bl true) H'
theorem at_15 {α : Type} {l : List α} {n : Nat} (h : n < 15) (hl : 15 ≤ l.length) : ∃ x, l[n]? = some x := ⟨_, List.getElem?_eq_getElem (by omega)⟩
theorem cut_ds {n : Nat} {dx dy : PyData} {ds : List PyData} (hd : (dsL dx dy)[n]? = some ds) (hn : n < 14) : (if (if n = 9 then 2 else 1) = 2 then [dx, dy] else [dx]) = ds := by
  match n, hn, hd with
  | 0, _, hd => cases hd; rfl
  | 1, _, hd => cases hd; rfl
  | 2, _, hd => cases hd; rfl
  | 3, _, hd => cases hd; rfl
  | 4, _, hd => cases hd; rfl
  | 5, _, hd => cases hd; rfl
  | 6, _, hd => cases hd; rfl
  | 7, _, hd => cases hd; rfl
  | 8, _, hd => cases hd; rfl
  | 9, _, hd => cases hd; rfl
  | 10, _, hd => cases hd; rfl
  | 11, _, hd => cases hd; rfl
  | 12, _, hd => cases hd; rfl
  | 13, _, hd => cases hd; rfl
  | n + 14, hn, _ => exact absurd hn (by omega)
section
variable {P : Program} {w : World} {K : PySem.W.Frag} {mg : Str → Option Value} {base : Heap} {a : Ads}
theorem ok_law (T : Txt w K mg a) (TBM : TabB base mg a.cM a.PM) (TBN : TabB base mg a.cN a.PN) {fL : Addr} {oc kV doc pm ct cdv : Value} {od an : Option Addr} {osl : Array (Option Value)} (lkL : K.lookup fL = some ⟨oc, od, .func (PySem.W.fnOf "law" "law" (defArgs s_law) (defBody s_law) (defScope s_law) .none kV doc pm an cdv ct), osl⟩) (hcdL : PySem.W.codeIn K cdv "law" = true) :
    FnG P w K mg base 8 fL (PySem.W.fnOf "law" "law" (defArgs s_law) (defBody s_law) (defScope s_law) .none kV doc pm an cdv ct) ["_law_script"] (spLaw K a) := by
  have G__law_bag : FnOk P w K mg base CX0 7 _ _ _ _ := (ok_bag T).mono (by decide)
  have G__law_field : FnOk P w K mg base CX0 7 _ _ _ _ := (ok_field T).mono (by decide)
  have G__law_fields : FnOk P w K mg base CX0 7 _ _ _ _ := (ok_fields T).mono (by decide)
  have G__law_classes : FnOk P w K mg base CX0 7 _ _ _ _ := (ok_classes T).mono (by decide)
  have G__law_made : FnG P w K mg base 7 _ _ _ _ := fnG_mono (ok__law_made T TBM) (by decide)
  have G__law_named : FnG P w K mg base 7 _ _ _ _ := fnG_mono (ok__law_named T TBN) (by decide)
  refine fnG_of lkL hcdL sc_law (fun vs H Q E h => ?_) fun A outer s H vs Q E gd hr h => ?_
  · obtain ⟨_, _, rfl, _⟩ := h
    rfl
  · obtain ⟨sc, ns, rfl, hs, hl, tabM, tabN, kk⟩ := h
    have hrc : Room 7 _ := hr
    have hu64 : A.units + 3 + 64 < cLine := by have := hr.un; have e : A.units + 3 + 16 * 7 + 200 < cLine := this; omega
    refine ⟨_, (show PSs (cxOf CX0 P w K mg base n_law "law" (defScope s_law) fL cdv A outer s H E).nox (defBody s_law) _ from (pss_cons (ps_set (i := 1) sc_law.nd rfl (Or.inl rfl) (pe_call G__law_bag hrc rfl T.mg__law_bag T.fn__law_bag.kp (bd__law_bag T) .nil pass0 (pa_cons (pv 0) pa_nil)))
    (pss_cons (ps_for PassesOwn.never rfl (pi_range1 rfl T.b_range (pa_cons pe_int pa_nil)) (pg_name (i := 2) sc_law.nd rfl (Or.inr rfl)) (pss_cons (ps_par (i := 3) (j := 4) rfl sc_law.nd rfl rfl (by decide) rfl rfl (pa_cons (pe_call G__law_field hrc rfl T.mg__law_field T.fn__law_field.kp (bd__law_field T) .nil pass0 (pa_cons (pv 1) pa_nil)) (pa_cons (pe_call G__law_field hrc rfl T.mg__law_field T.fn__law_field.kp (bd__law_field T) .nil pass0 (pa_cons (pv 1) pa_nil)) pa_nil)) (by rfl))
    (pss_cons (ps_set (i := 5) sc_law.nd rfl (Or.inl rfl) (pe_callG (E := fun _ _ _ => False) G__law_made gd hrc rfl T.mg__law_made T.fn__law_made.kp (bd__law_made T) (pa_cons (pv 2) (pa_cons (pv 3) (pa_cons (pv 4) pa_nil)))))
    (pss_cons (ps_set (i := 6) sc_law.nd rfl (Or.inl rfl) (pe_slice sl_listN (pe_lst (pa_cons (pv 3) (pa_cons (pv 4) pa_nil))) po_none (po_some (pe_op op_add pe_int (pe_callTy call_int1 (by rfl) T.b_int (by decide +kernel) (pa_cons (pe_cmpR op_eq (pv 2) pe_int (nomark _)) pa_nil))))))
    (pss_cons (ps_if (pt_cmpR op_eq (pv 2) pe_int (nomark _)) (pss_one (ps_set (i := 6) sc_law.nd rfl (Or.inl rfl) (pe_lstN pa_nil))) pss_nil)
    (pss_cons (ps_set (i := 7) sc_law.nd rfl (Or.inl rfl) (pe_callG (E := fun _ _ _ => False) G__law_named gd hrc rfl T.mg__law_named T.fn__law_named.kp (bd__law_named T) (pa_cons (pv 2) (pa_cons (pv 3) (pa_cons (pv 4) pa_nil)))))
    (pss_cons (ps_if (pt_cmpR op_ne (pe_callB (call_reprZ gd hu64) (by rfl) T.b_repr PyProof.Rows.boot_repr (pa_cons (pe_lstN (pa_cons (pe_call G__law_fields hrc rfl T.mg__law_fields T.fn__law_fields.kp (bd__law_fields T) .nil pass0 (pa_cons (pv 2) (pa_cons (pv 5) pa_nil))) (pa_cons (pe_call G__law_fields hrc rfl T.mg__law_fields T.fn__law_fields.kp (bd__law_fields T) .nil pass0 (pa_cons (pv 2) (pa_cons (pv 7) pa_nil))) pa_nil))) pa_nil)) (pe_callB (call_reprZ gd hu64) (by rfl) T.b_repr PyProof.Rows.boot_repr (pa_cons (pe_lstN (pa_cons (pv 6) (pa_cons (pv 6) pa_nil))) pa_nil)) (nomark _)) (pss_one (ps_ret pe_bl)) pss_nil)
    (pss_cons (ps_set (i := 8) sc_law.nd rfl (Or.inl rfl) (pe_op op_cat (pe_lc (own := [("_law_k", 9)]) (g := gName 9) rfl sc_law.nd (pi_range1 rfl T.b_range (pa_cons pe_int pa_nil)) (blkOk_by (own := [("_law_k", 9)]) (N := n_law) (sc := defScope s_law) (by decide +kernel)) (fun _ _ _ _ _ => (pg_name (i := 9) sc_law.nd rfl (Or.inl rfl))) (fun _ _ _ _ _ => pts_nil) (fun _ _ _ _ _ => (pe_cmpR op_eq (pv 9) (pv 2) (nomark _)))) (pe_lst (pa_cons (pe_cmpR op_lt (pv 2) pe_int (nomark _)) (pa_cons (pe_cmpR op_ge (pv 2) pe_int (nomark _)) (pa_cons pe_bl (pa_cons pe_bl pa_nil)))))))
    (pss_one (ps_if (PW.pt (pw_or (pt_cmpR (op_neD hu64) (pe_call G__law_classes hrc rfl T.mg__law_classes T.fn__law_classes.kp (bd__law_classes T) .nil pass0 (pa_cons (pv 5) pa_nil)) (pv 8) (nomark _)) (pw_or1 (pt_cmpR (op_neD hu64) (pe_call G__law_classes hrc rfl T.mg__law_classes T.fn__law_classes.kp (bd__law_classes T) .nil pass0 (pa_cons (pv 7) pa_nil)) (pv 8) (nomark _))))) (pss_one (ps_ret pe_bl)) pss_nil))))))))))
    (pss_one (ps_ret pe_bl))))), ?_⟩
    refine ⟨.ref sc, rfl, sc, ns, rfl, hs, hl, fun p H1 hp e1 bag1 => ?_⟩
    have tab1 : Tabs (tabsT a) H1 := fun q hq => by
      rcases List.mem_cons.mp hq with rfl | hq
      · exact TabS.nil (e1 _ _ tabM)
      · rw [List.mem_singleton.mp hq]
        exact TabS.nil (e1 _ _ tabN)
    refine q_forR1 (n := 15) (ea_cons ev_c ea_nil) (by decide) (fun i σ' H' => ∃ o2 o3 o4 o5 o6 o7 o8 o9, σ' = [some (.ref sc), some (.ref p), o2, o3, o4, o5, o6, o7, o8, o9] ∧ BagAt H' p ∧ Tabs (tabsT a) H') (fun H2 e2 => ⟨_, _, _, _, _, _, _, _, rfl, bag1.keep e2, tabs_keep tab1 e2⟩) (fun n σ' H2 hn q => ?_) (fun σ' H2 q => ?_)
    · obtain ⟨o2, o3, o4, o5, o6, o7, o8, o9, rfl, bag2, tab2⟩ := q
      have hn : n < 15 := by omega
      refine q_parD ⟨.ref p, rfl, p, rfl, bag2, fun i dx x H3 hi zx e3 bag3 => ⟨.ref p, rfl, p, rfl, bag3, fun j dy y H4 hj zy e4 bag4 => ⟨x, y, rfl, ?_⟩⟩⟩
      replace zx := Dz.keep (keepD_B bag3 e4) _ _ zx
      have tab4 := tabs_exB (tabs_exB tab2 bag2 e3) bag3 e4
      clear e3 e4 bag3 tab2 bag2
      obtain ⟨C, hC⟩ := at_15 (l := a.all) hn (by show 15 ≤ 18; decide)
      obtain ⟨fs, hf⟩ := at_15 (l := fsL x y) hn (by show 15 ≤ 15; decide)
      obtain ⟨ds, hd⟩ := at_15 (l := dsL dx dy) hn (by show 15 ≤ 15; decide)
      have okd := ok_ds hi hj hd hn
      refine q_asgRaw ⟨.int n, rfl, x, rfl, y, rfl, n, x, y, C, fs, rfl, hC, hf, hn, tab4, fun e5 H5 eN5 tab5 hE5 => ?_⟩
      have bag5 := bag4.keepN eN5
      replace zx := Dz.keep (keepD_N eN5) _ _ zx
      replace zy := Dz.keep (keepD_N eN5) _ _ zy
      clear eN5 tab4 bag4
      refine q_asgZ (ez_cut (k := if n = 9 then 2 else 1) (ev_var rfl) (ev_var rfl) (ev_is (ev_op ev_c (ev_intB (ev_op (ev_var rfl) ev_c (rv_eq rfl))) rv_I0) (one_9 n)) zx zy (by split <;> simp)) fun v6 H6 e6 z6 => ?_
      replace hE5 := hE5.mono e6
      replace zx := Dz.keep (keepD_ex e6) _ _ zx
      replace zy := Dz.keep (keepD_ex e6) _ _ zy
      have bag6 := bag5.keep e6
      have tab6 := tabs_keep tab5 e6
      clear e6 bag5 tab5
      refine q_whenC (b := decide (V.int (n : Nat) = V.int 14)) (fun σ' H' => ∃ v, σ' = [some (.ref sc), some (.ref p), some (.int n), some x, some y, some (.ref e5), some v, o7, o8, o9] ∧ Ex H6 H' ∧ Dz H' v (.list ds)) (et_test (ev_op (ev_var rfl) ev_c (rv_eq rfl))) (fun σ' H' got => ?_) (fun yes H7 e7 D' nx => ?_) (fun no H7 e7 => ?_)
      rotate_left
      · have n14 : n = 14 := by
          have := of_decide_eq_true yes
          have := V.int.inj this
          omega
        subst n14
        cases hd
        exact s_asgZ (ez_lst ezs_nil (by show 0 ≤ 900; decide)) fun v H8 e8 z8 => nx _ _ ⟨v, rfl, e7.trans e8, z8⟩
      · have n14 : n ≠ 14 := fun z => by
          subst z
          exact of_decide_eq_false no rfl
        refine ⟨v6, rfl, e7, ?_⟩
        rw [← cut_ds hd (by omega)]
        exact Dz.keep (keepD_ex e7) _ _ z6
      obtain ⟨v, rfl, e7, z7⟩ := got
      replace hE5 := hE5.mono e7
      replace zx := Dz.keep (keepD_ex e7) _ _ zx
      replace zy := Dz.keep (keepD_ex e7) _ _ zy
      have bag7 := bag6.keep e7
      have tab7 := tabs_keep tab6 e7
      clear e7 bag6 tab6 z6
      refine q_asgRaw ⟨.int n, rfl, x, rfl, y, rfl, n, x, y, C, fs, rfl, hC, hf, hn, tab7, fun e8 H8 eN8 tab8 hE8 => ?_⟩
      replace hE5 := hE5.keepN eN8
      have bag8 := bag7.keepN eN8
      replace zx := Dz.keep (keepD_N eN8) _ _ zx
      replace zy := Dz.keep (keepD_N eN8) _ _ zy
      replace z7 := Dz.keep (keepD_N eN8) _ _ z7
      clear eN8 bag7 tab7
      refine q_when (b := false) (et_is (et_test (ev_op (ev_reprZ (ds := [.list ds, .list ds]) (ez_lst (ezs_cons (ez_fields rfl rfl hC hf hd hn hE5 zx zy) (ezs_cons (ez_fields rfl rfl hC hf hd hn hE8 zx zy) ezs_nil)) (by show 2 ≤ 900; decide)) okd) (ev_reprZ (ds := [.list ds, .list ds]) (ez_lst (ezs_cons (ez_var rfl z7) (ezs_cons (ez_var rfl z7) ezs_nil)) (by show 2 ≤ 900; decide)) okd) (rv_ne rfl))) (by simp)) (fun z => nomatch z) fun _ H9 e9 => ?_
      replace hE5 := hE5.mono e9
      replace hE8 := hE8.mono e9
      refine q_asgL (xs := (clsB n).map V.bl) (el_is (el_catL (xs := given 15 (fun _ => true) (fun k => V.bl (decide (V.int (k : Nat) = V.int (n : Nat))))) (ys := [V.bl (decide ((n : Int) < 10)), V.bl (decide ((10 : Int) ≤ n)), V.bl true, V.bl true]) (el_lcR1 (n := 15) (fun _ => true) (fun k => V.bl (decide (V.int (k : Nat) = V.int (n : Nat)))) (ea_cons ev_c ea_nil) (by decide) (fun _ => rfl) (fun _ _ _ _ => et_yes) (fun k H3 _ _ _ => ev_op (ev_var rfl) (ev_var rfl) (rv_eq rfl))) (el_lst (ea_cons (ev_op (ev_var rfl) ev_c rv_I0) (ea_cons (ev_op (ev_var rfl) ev_c rv_I0) (ea_cons ev_c (ea_cons ev_c ea_nil)))) (by show 4 ≤ 100000; decide)) (by show 15 + 4 ≤ 900; decide)) (due_is n hn)) fun l H10 hl10 e10 h10 => ?_
      replace hE5 := hE5.mono e10
      replace hE8 := hE8.mono e10
      refine s_when (b := false) (et_is (et_or (a := false) (b := false) (et_test (ev_neCls hn (el_classes rfl hC hn hE5) (ev_var rfl) h10)) fun _ => et_test (ev_neCls hn (el_classes rfl hC hn hE8) (ev_var rfl) h10)) rfl) (fun z => nomatch z) fun _ H11 e11 => ?_
      exact ⟨_, _, _, _, _, _, _, _, rfl, bag8.keep ((e9.trans e10).trans e11), tabs_keep tab8 ((e9.trans e10).trans e11)⟩
    · exact s_ret (v := .bl true) ev_c fun H3 e3 => kk H3
end
end KO
set_option Elab.async false
set_option linter.all false
set_option maxRecDepth 100000
set_option maxHeartbeats 4000000
namespace KO
open PySem PySem.Spec PyProof.Rows L2 Evl KF
local macro_rules | `(tactic| walk_at "ev") => `(tactic| repeat' (first | exact ev_c | exact ev_var rfl | exact rv_I0 | refine' rv_I ?_ | refine' rv_eq ?_ | refine' rv_ne ?_ | refine' ev_op ?_ ?_ ?_ | exact ea_nil | refine' ea_cons ?_ ?_ | refine' et_test ?_ | refine' et_B ?_ | refine' et_not ?_ | refine' ev_notV ?_))

open PySem LamX KD
theorem mro_of {K : PySem.W.Frag} {nm q : Str} {C N : Addr} {bs bm l : List Value} {sn : List Str} {sub : List Value} {ab : Bool} {col : Option Bool} {dd : Option Addr} {m0 m1 m2 m3 m5 : Option Value} (xl : K.lookup C = some (excClassObj nm q C N bs bm true sn sub ab col dd m0 m1 m2 m3 m5 "ValueError.__new__")) (e : bm = l) : MroIs K C (.ref C :: l) ∧ (PySem.W.clsIn K C).isSome = true := by
  subst e
  have h : PySem.W.clsIn K C = some { name := nm, bases := bs, mro := .ref C :: bm, ns := N, qualname := q, hasDict := true, slotNames := sn, subclasses := sub, abstract := ab, collection := col, hasDel := false } := by
    unfold PySem.W.clsIn
    rw [xl] <;> rfl
  exact ⟨⟨_, h, rfl⟩, by rw [h]; rfl⟩
theorem all_mk {l : PySem.W.OpenLaw} {w : World} {K : PySem.W.Frag} {h : Heap} {mg : Str → Option Value} {fa : Addr} (X : K.In h) (G : h.Ns mainGlobals mg) (hfa : mg "law" = some (.ref fa))
    {f__law_bag f__law_draw f__law_field f__law_made f__law_named f__law_fields f__law_classes x_BadMode x_BadClause x_BadName x_BadPath x_BadUser x_BadCommand x_BadKind x_BadStand x_BadBeat x_BadText x_NoEntry x_NoCommand x_NoStand x_TooMany x_NoKind x_BadInput x_NoWay x_ModesError f_BadModeD_initD f_BadClauseD_initD f_BadNameD_initD f_BadPathD_initD f_BadUserD_initD f_BadCommandD_initD f_BadKindD_initD f_BadStandD_initD f_BadBeatD_initD f_BadTextD_initD f_NoEntryD_initD f_NoCommandD_initD f_NoStandD_initD f_TooManyD_initD f_NoKindD_initD cM PM cN PN f_law : Addr}
    {od__law_bag : Option Addr}
    {an__law_bag : Option Addr}
    {sl__law_bag : Array (Option Value)}
    {oc__law_bag kV__law_bag dc__law_bag pm__law_bag ct__law_bag : Value}
    {cd__law_bag : Value}
    {od__law_draw : Option Addr}
    {an__law_draw : Option Addr}
    {sl__law_draw : Array (Option Value)}
    {oc__law_draw kV__law_draw dc__law_draw pm__law_draw ct__law_draw : Value}
    {cd__law_draw : Value}
    {od__law_field : Option Addr}
    {an__law_field : Option Addr}
    {sl__law_field : Array (Option Value)}
    {oc__law_field kV__law_field dc__law_field pm__law_field ct__law_field : Value}
    {cd__law_field : Value}
    {od__law_made : Option Addr}
    {an__law_made : Option Addr}
    {sl__law_made : Array (Option Value)}
    {oc__law_made kV__law_made dc__law_made pm__law_made ct__law_made : Value}
    {od__law_named : Option Addr}
    {an__law_named : Option Addr}
    {sl__law_named : Array (Option Value)}
    {oc__law_named kV__law_named dc__law_named pm__law_named ct__law_named : Value}
    {od__law_fields : Option Addr}
    {an__law_fields : Option Addr}
    {sl__law_fields : Array (Option Value)}
    {oc__law_fields kV__law_fields dc__law_fields pm__law_fields ct__law_fields : Value}
    {cd__law_fields : Value}
    {od__law_classes : Option Addr}
    {an__law_classes : Option Addr}
    {sl__law_classes : Array (Option Value)}
    {oc__law_classes kV__law_classes dc__law_classes pm__law_classes ct__law_classes : Value}
    {cd__law_classes : Value}
    {cdx_BadInput : PySem.ClassData}
    {cdx_NoWay : PySem.ClassData}
    {cdx_ModesError : PySem.ClassData}
    {nm_BadMode q_BadMode : Str} {N_BadMode : Addr} {bs_BadMode bm_BadMode : List Value} {sn_BadMode : List Str} {sub_BadMode : List Value} {ab_BadMode : Bool} {col_BadMode : Option Bool} {dd_BadMode : Option Addr} {m0_BadMode m1_BadMode m2_BadMode m3_BadMode m5_BadMode : Option Value}
    {od_BadModeD_initD : Option Addr}
    {an_BadModeD_initD : Option Addr}
    {sl_BadModeD_initD : Array (Option Value)}
    {oc_BadModeD_initD kV_BadModeD_initD dc_BadModeD_initD pm_BadModeD_initD ct_BadModeD_initD : Value}
    {cd_BadModeD_initD : Value}
    {nm_BadClause q_BadClause : Str} {N_BadClause : Addr} {bs_BadClause bm_BadClause : List Value} {sn_BadClause : List Str} {sub_BadClause : List Value} {ab_BadClause : Bool} {col_BadClause : Option Bool} {dd_BadClause : Option Addr} {m0_BadClause m1_BadClause m2_BadClause m3_BadClause m5_BadClause : Option Value}
    {od_BadClauseD_initD : Option Addr}
    {an_BadClauseD_initD : Option Addr}
    {sl_BadClauseD_initD : Array (Option Value)}
    {oc_BadClauseD_initD kV_BadClauseD_initD dc_BadClauseD_initD pm_BadClauseD_initD ct_BadClauseD_initD : Value}
    {cd_BadClauseD_initD : Value}
    {nm_BadName q_BadName : Str} {N_BadName : Addr} {bs_BadName bm_BadName : List Value} {sn_BadName : List Str} {sub_BadName : List Value} {ab_BadName : Bool} {col_BadName : Option Bool} {dd_BadName : Option Addr} {m0_BadName m1_BadName m2_BadName m3_BadName m5_BadName : Option Value}
    {od_BadNameD_initD : Option Addr}
    {an_BadNameD_initD : Option Addr}
    {sl_BadNameD_initD : Array (Option Value)}
    {oc_BadNameD_initD kV_BadNameD_initD dc_BadNameD_initD pm_BadNameD_initD ct_BadNameD_initD : Value}
    {cd_BadNameD_initD : Value}
    {nm_BadPath q_BadPath : Str} {N_BadPath : Addr} {bs_BadPath bm_BadPath : List Value} {sn_BadPath : List Str} {sub_BadPath : List Value} {ab_BadPath : Bool} {col_BadPath : Option Bool} {dd_BadPath : Option Addr} {m0_BadPath m1_BadPath m2_BadPath m3_BadPath m5_BadPath : Option Value}
    {od_BadPathD_initD : Option Addr}
    {an_BadPathD_initD : Option Addr}
    {sl_BadPathD_initD : Array (Option Value)}
    {oc_BadPathD_initD kV_BadPathD_initD dc_BadPathD_initD pm_BadPathD_initD ct_BadPathD_initD : Value}
    {cd_BadPathD_initD : Value}
    {nm_BadUser q_BadUser : Str} {N_BadUser : Addr} {bs_BadUser bm_BadUser : List Value} {sn_BadUser : List Str} {sub_BadUser : List Value} {ab_BadUser : Bool} {col_BadUser : Option Bool} {dd_BadUser : Option Addr} {m0_BadUser m1_BadUser m2_BadUser m3_BadUser m5_BadUser : Option Value}
    {od_BadUserD_initD : Option Addr}
    {an_BadUserD_initD : Option Addr}
    {sl_BadUserD_initD : Array (Option Value)}
    {oc_BadUserD_initD kV_BadUserD_initD dc_BadUserD_initD pm_BadUserD_initD ct_BadUserD_initD : Value}
    {cd_BadUserD_initD : Value}
    {nm_BadCommand q_BadCommand : Str} {N_BadCommand : Addr} {bs_BadCommand bm_BadCommand : List Value} {sn_BadCommand : List Str} {sub_BadCommand : List Value} {ab_BadCommand : Bool} {col_BadCommand : Option Bool} {dd_BadCommand : Option Addr} {m0_BadCommand m1_BadCommand m2_BadCommand m3_BadCommand m5_BadCommand : Option Value}
    {od_BadCommandD_initD : Option Addr}
    {an_BadCommandD_initD : Option Addr}
    {sl_BadCommandD_initD : Array (Option Value)}
    {oc_BadCommandD_initD kV_BadCommandD_initD dc_BadCommandD_initD pm_BadCommandD_initD ct_BadCommandD_initD : Value}
    {cd_BadCommandD_initD : Value}
    {nm_BadKind q_BadKind : Str} {N_BadKind : Addr} {bs_BadKind bm_BadKind : List Value} {sn_BadKind : List Str} {sub_BadKind : List Value} {ab_BadKind : Bool} {col_BadKind : Option Bool} {dd_BadKind : Option Addr} {m0_BadKind m1_BadKind m2_BadKind m3_BadKind m5_BadKind : Option Value}
    {od_BadKindD_initD : Option Addr}
    {an_BadKindD_initD : Option Addr}
    {sl_BadKindD_initD : Array (Option Value)}
    {oc_BadKindD_initD kV_BadKindD_initD dc_BadKindD_initD pm_BadKindD_initD ct_BadKindD_initD : Value}
    {cd_BadKindD_initD : Value}
    {nm_BadStand q_BadStand : Str} {N_BadStand : Addr} {bs_BadStand bm_BadStand : List Value} {sn_BadStand : List Str} {sub_BadStand : List Value} {ab_BadStand : Bool} {col_BadStand : Option Bool} {dd_BadStand : Option Addr} {m0_BadStand m1_BadStand m2_BadStand m3_BadStand m5_BadStand : Option Value}
    {od_BadStandD_initD : Option Addr}
    {an_BadStandD_initD : Option Addr}
    {sl_BadStandD_initD : Array (Option Value)}
    {oc_BadStandD_initD kV_BadStandD_initD dc_BadStandD_initD pm_BadStandD_initD ct_BadStandD_initD : Value}
    {cd_BadStandD_initD : Value}
    {nm_BadBeat q_BadBeat : Str} {N_BadBeat : Addr} {bs_BadBeat bm_BadBeat : List Value} {sn_BadBeat : List Str} {sub_BadBeat : List Value} {ab_BadBeat : Bool} {col_BadBeat : Option Bool} {dd_BadBeat : Option Addr} {m0_BadBeat m1_BadBeat m2_BadBeat m3_BadBeat m5_BadBeat : Option Value}
    {od_BadBeatD_initD : Option Addr}
    {an_BadBeatD_initD : Option Addr}
    {sl_BadBeatD_initD : Array (Option Value)}
    {oc_BadBeatD_initD kV_BadBeatD_initD dc_BadBeatD_initD pm_BadBeatD_initD ct_BadBeatD_initD : Value}
    {cd_BadBeatD_initD : Value}
    {nm_BadText q_BadText : Str} {N_BadText : Addr} {bs_BadText bm_BadText : List Value} {sn_BadText : List Str} {sub_BadText : List Value} {ab_BadText : Bool} {col_BadText : Option Bool} {dd_BadText : Option Addr} {m0_BadText m1_BadText m2_BadText m3_BadText m5_BadText : Option Value}
    {od_BadTextD_initD : Option Addr}
    {an_BadTextD_initD : Option Addr}
    {sl_BadTextD_initD : Array (Option Value)}
    {oc_BadTextD_initD kV_BadTextD_initD dc_BadTextD_initD pm_BadTextD_initD ct_BadTextD_initD : Value}
    {cd_BadTextD_initD : Value}
    {nm_NoEntry q_NoEntry : Str} {N_NoEntry : Addr} {bs_NoEntry bm_NoEntry : List Value} {sn_NoEntry : List Str} {sub_NoEntry : List Value} {ab_NoEntry : Bool} {col_NoEntry : Option Bool} {dd_NoEntry : Option Addr} {m0_NoEntry m1_NoEntry m2_NoEntry m3_NoEntry m5_NoEntry : Option Value}
    {od_NoEntryD_initD : Option Addr}
    {an_NoEntryD_initD : Option Addr}
    {sl_NoEntryD_initD : Array (Option Value)}
    {oc_NoEntryD_initD kV_NoEntryD_initD dc_NoEntryD_initD pm_NoEntryD_initD ct_NoEntryD_initD : Value}
    {cd_NoEntryD_initD : Value}
    {nm_NoCommand q_NoCommand : Str} {N_NoCommand : Addr} {bs_NoCommand bm_NoCommand : List Value} {sn_NoCommand : List Str} {sub_NoCommand : List Value} {ab_NoCommand : Bool} {col_NoCommand : Option Bool} {dd_NoCommand : Option Addr} {m0_NoCommand m1_NoCommand m2_NoCommand m3_NoCommand m5_NoCommand : Option Value}
    {od_NoCommandD_initD : Option Addr}
    {an_NoCommandD_initD : Option Addr}
    {sl_NoCommandD_initD : Array (Option Value)}
    {oc_NoCommandD_initD kV_NoCommandD_initD dc_NoCommandD_initD pm_NoCommandD_initD ct_NoCommandD_initD : Value}
    {cd_NoCommandD_initD : Value}
    {nm_NoStand q_NoStand : Str} {N_NoStand : Addr} {bs_NoStand bm_NoStand : List Value} {sn_NoStand : List Str} {sub_NoStand : List Value} {ab_NoStand : Bool} {col_NoStand : Option Bool} {dd_NoStand : Option Addr} {m0_NoStand m1_NoStand m2_NoStand m3_NoStand m5_NoStand : Option Value}
    {od_NoStandD_initD : Option Addr}
    {an_NoStandD_initD : Option Addr}
    {sl_NoStandD_initD : Array (Option Value)}
    {oc_NoStandD_initD kV_NoStandD_initD dc_NoStandD_initD pm_NoStandD_initD ct_NoStandD_initD : Value}
    {cd_NoStandD_initD : Value}
    {nm_TooMany q_TooMany : Str} {N_TooMany : Addr} {bs_TooMany bm_TooMany : List Value} {sn_TooMany : List Str} {sub_TooMany : List Value} {ab_TooMany : Bool} {col_TooMany : Option Bool} {dd_TooMany : Option Addr} {m0_TooMany m1_TooMany m2_TooMany m3_TooMany m5_TooMany : Option Value}
    {od_TooManyD_initD : Option Addr}
    {an_TooManyD_initD : Option Addr}
    {sl_TooManyD_initD : Array (Option Value)}
    {oc_TooManyD_initD kV_TooManyD_initD dc_TooManyD_initD pm_TooManyD_initD ct_TooManyD_initD : Value}
    {cd_TooManyD_initD : Value}
    {nm_NoKind q_NoKind : Str} {N_NoKind : Addr} {bs_NoKind bm_NoKind : List Value} {sn_NoKind : List Str} {sub_NoKind : List Value} {ab_NoKind : Bool} {col_NoKind : Option Bool} {dd_NoKind : Option Addr} {m0_NoKind m1_NoKind m2_NoKind m3_NoKind m5_NoKind : Option Value}
    {od_NoKindD_initD : Option Addr}
    {an_NoKindD_initD : Option Addr}
    {sl_NoKindD_initD : Array (Option Value)}
    {oc_NoKindD_initD kV_NoKindD_initD dc_NoKindD_initD pm_NoKindD_initD ct_NoKindD_initD : Value}
    {cd_NoKindD_initD : Value}
    {od_law : Option Addr}
    {an_law : Option Addr}
    {sl_law : Array (Option Value)}
    {oc_law kV_law dc_law pm_law ct_law : Value}
    {cd_law : Value}
    {od_cM : Option Addr} {vs_cM : Array Value} {sl_cM : Array (Option Value)}
    {od_cN : Option Addr} {vs_cN : Array Value} {sl_cN : Array (Option Value)}
    (z_isinstance : PySem.W.nsIn K mainGlobals "isinstance" = some none)
    (z_int : PySem.W.nsIn K mainGlobals "int" = some none)
    (z_list : PySem.W.nsIn K mainGlobals "list" = some none)
    (z_len : PySem.W.nsIn K mainGlobals "len" = some none)
    (z_abs : PySem.W.nsIn K mainGlobals "abs" = some none)
    (z_range : PySem.W.nsIn K mainGlobals "range" = some none)
    (z_repr : PySem.W.nsIn K mainGlobals "repr" = some none)
    (z_ValueError : PySem.W.nsIn K mainGlobals "ValueError" = some none)
    (a__law_bag : PySem.W.nsIn K mainGlobals "_law_bag" = some (some (.ref f__law_bag)))
    (l__law_bag : K.lookup f__law_bag = some ⟨oc__law_bag, od__law_bag, .func (PySem.W.fnOf "_law_bag" "_law_bag" (defArgs s__law_bag) (defBody s__law_bag) (defScope s__law_bag) .none kV__law_bag dc__law_bag pm__law_bag an__law_bag cd__law_bag ct__law_bag), sl__law_bag⟩)
    (co__law_bag : PySem.W.codeIn K cd__law_bag "_law_bag" = true)
    (kp__law_bag : PySem.W.keepIn K (.ref f__law_bag) = true)
    (a__law_draw : PySem.W.nsIn K mainGlobals "_law_draw" = some (some (.ref f__law_draw)))
    (l__law_draw : K.lookup f__law_draw = some ⟨oc__law_draw, od__law_draw, .func (PySem.W.fnOf "_law_draw" "_law_draw" (defArgs s__law_draw) (defBody s__law_draw) (defScope s__law_draw) .none kV__law_draw dc__law_draw pm__law_draw an__law_draw cd__law_draw ct__law_draw), sl__law_draw⟩)
    (co__law_draw : PySem.W.codeIn K cd__law_draw "_law_draw" = true)
    (kp__law_draw : PySem.W.keepIn K (.ref f__law_draw) = true)
    (a__law_field : PySem.W.nsIn K mainGlobals "_law_field" = some (some (.ref f__law_field)))
    (l__law_field : K.lookup f__law_field = some ⟨oc__law_field, od__law_field, .func (PySem.W.fnOf "_law_field" "_law_field" (defArgs s__law_field) (defBody s__law_field) (defScope s__law_field) .none kV__law_field dc__law_field pm__law_field an__law_field cd__law_field ct__law_field), sl__law_field⟩)
    (co__law_field : PySem.W.codeIn K cd__law_field "_law_field" = true)
    (kp__law_field : PySem.W.keepIn K (.ref f__law_field) = true)
    (a__law_made : PySem.W.nsIn K mainGlobals "_law_made" = some (some (.ref f__law_made)))
    (l__law_made : K.lookup f__law_made = some ⟨oc__law_made, od__law_made, .func (PySem.W.fnOf "_law_made" "_law_made" (defArgs s__law_made) (defBody s__law_made) (defScope s__law_made) .none kV__law_made dc__law_made pm__law_made an__law_made (.ref cM) ct__law_made), sl__law_made⟩)
    (co__law_made : PySem.W.codeIn K (.ref cM) "_law_made" = true)
    (kp__law_made : PySem.W.keepIn K (.ref f__law_made) = true)
    (a__law_named : PySem.W.nsIn K mainGlobals "_law_named" = some (some (.ref f__law_named)))
    (l__law_named : K.lookup f__law_named = some ⟨oc__law_named, od__law_named, .func (PySem.W.fnOf "_law_named" "_law_named" (defArgs s__law_named) (defBody s__law_named) (defScope s__law_named) .none kV__law_named dc__law_named pm__law_named an__law_named (.ref cN) ct__law_named), sl__law_named⟩)
    (co__law_named : PySem.W.codeIn K (.ref cN) "_law_named" = true)
    (kp__law_named : PySem.W.keepIn K (.ref f__law_named) = true)
    (a__law_fields : PySem.W.nsIn K mainGlobals "_law_fields" = some (some (.ref f__law_fields)))
    (l__law_fields : K.lookup f__law_fields = some ⟨oc__law_fields, od__law_fields, .func (PySem.W.fnOf "_law_fields" "_law_fields" (defArgs s__law_fields) (defBody s__law_fields) (defScope s__law_fields) .none kV__law_fields dc__law_fields pm__law_fields an__law_fields cd__law_fields ct__law_fields), sl__law_fields⟩)
    (co__law_fields : PySem.W.codeIn K cd__law_fields "_law_fields" = true)
    (kp__law_fields : PySem.W.keepIn K (.ref f__law_fields) = true)
    (a__law_classes : PySem.W.nsIn K mainGlobals "_law_classes" = some (some (.ref f__law_classes)))
    (l__law_classes : K.lookup f__law_classes = some ⟨oc__law_classes, od__law_classes, .func (PySem.W.fnOf "_law_classes" "_law_classes" (defArgs s__law_classes) (defBody s__law_classes) (defScope s__law_classes) .none kV__law_classes dc__law_classes pm__law_classes an__law_classes cd__law_classes ct__law_classes), sl__law_classes⟩)
    (co__law_classes : PySem.W.codeIn K cd__law_classes "_law_classes" = true)
    (kp__law_classes : PySem.W.keepIn K (.ref f__law_classes) = true)
    (a_BadMode : PySem.W.nsIn K mainGlobals "BadMode" = some (some (.ref x_BadMode)))
    (ti_BadMode : PySem.W.typeIn K (.ref x_BadMode) = some (.type "type"))
    (a_BadClause : PySem.W.nsIn K mainGlobals "BadClause" = some (some (.ref x_BadClause)))
    (ti_BadClause : PySem.W.typeIn K (.ref x_BadClause) = some (.type "type"))
    (a_BadName : PySem.W.nsIn K mainGlobals "BadName" = some (some (.ref x_BadName)))
    (ti_BadName : PySem.W.typeIn K (.ref x_BadName) = some (.type "type"))
    (a_BadPath : PySem.W.nsIn K mainGlobals "BadPath" = some (some (.ref x_BadPath)))
    (ti_BadPath : PySem.W.typeIn K (.ref x_BadPath) = some (.type "type"))
    (a_BadUser : PySem.W.nsIn K mainGlobals "BadUser" = some (some (.ref x_BadUser)))
    (ti_BadUser : PySem.W.typeIn K (.ref x_BadUser) = some (.type "type"))
    (a_BadCommand : PySem.W.nsIn K mainGlobals "BadCommand" = some (some (.ref x_BadCommand)))
    (ti_BadCommand : PySem.W.typeIn K (.ref x_BadCommand) = some (.type "type"))
    (a_BadKind : PySem.W.nsIn K mainGlobals "BadKind" = some (some (.ref x_BadKind)))
    (ti_BadKind : PySem.W.typeIn K (.ref x_BadKind) = some (.type "type"))
    (a_BadStand : PySem.W.nsIn K mainGlobals "BadStand" = some (some (.ref x_BadStand)))
    (ti_BadStand : PySem.W.typeIn K (.ref x_BadStand) = some (.type "type"))
    (a_BadBeat : PySem.W.nsIn K mainGlobals "BadBeat" = some (some (.ref x_BadBeat)))
    (ti_BadBeat : PySem.W.typeIn K (.ref x_BadBeat) = some (.type "type"))
    (a_BadText : PySem.W.nsIn K mainGlobals "BadText" = some (some (.ref x_BadText)))
    (ti_BadText : PySem.W.typeIn K (.ref x_BadText) = some (.type "type"))
    (a_NoEntry : PySem.W.nsIn K mainGlobals "NoEntry" = some (some (.ref x_NoEntry)))
    (ti_NoEntry : PySem.W.typeIn K (.ref x_NoEntry) = some (.type "type"))
    (a_NoCommand : PySem.W.nsIn K mainGlobals "NoCommand" = some (some (.ref x_NoCommand)))
    (ti_NoCommand : PySem.W.typeIn K (.ref x_NoCommand) = some (.type "type"))
    (a_NoStand : PySem.W.nsIn K mainGlobals "NoStand" = some (some (.ref x_NoStand)))
    (ti_NoStand : PySem.W.typeIn K (.ref x_NoStand) = some (.type "type"))
    (a_TooMany : PySem.W.nsIn K mainGlobals "TooMany" = some (some (.ref x_TooMany)))
    (ti_TooMany : PySem.W.typeIn K (.ref x_TooMany) = some (.type "type"))
    (a_NoKind : PySem.W.nsIn K mainGlobals "NoKind" = some (some (.ref x_NoKind)))
    (ti_NoKind : PySem.W.typeIn K (.ref x_NoKind) = some (.type "type"))
    (a_BadInput : PySem.W.nsIn K mainGlobals "BadInput" = some (some (.ref x_BadInput)))
    (ti_BadInput : PySem.W.typeIn K (.ref x_BadInput) = some (.type "type"))
    (a_NoWay : PySem.W.nsIn K mainGlobals "NoWay" = some (some (.ref x_NoWay)))
    (ti_NoWay : PySem.W.typeIn K (.ref x_NoWay) = some (.type "type"))
    (a_ModesError : PySem.W.nsIn K mainGlobals "ModesError" = some (some (.ref x_ModesError)))
    (ti_ModesError : PySem.W.typeIn K (.ref x_ModesError) = some (.type "type"))
    (cix_BadInput : PySem.W.clsIn K x_BadInput = some cdx_BadInput)
    (cix_NoWay : PySem.W.clsIn K x_NoWay = some cdx_NoWay)
    (cix_ModesError : PySem.W.clsIn K x_ModesError = some cdx_ModesError)
    (xl_BadMode : K.lookup x_BadMode = some (excClassObj nm_BadMode q_BadMode x_BadMode N_BadMode bs_BadMode bm_BadMode true sn_BadMode sub_BadMode ab_BadMode col_BadMode dd_BadMode m0_BadMode m1_BadMode m2_BadMode m3_BadMode m5_BadMode "ValueError.__new__"))
    (be_BadMode : bm_BadMode = [.ref x_BadInput, .ref x_ModesError, .type "ValueError", .type "Exception", .type "BaseException", .type "object"])
    (rf_BadMode : PySem.HandSPX.refsVE bm_BadMode = true)
    (sa_BadMode : PySem.W.findIn K (.ref x_BadMode) "__setattr__" = some (some (.builtin "object.__setattr__")))
    (ex_BadMode : PySem.W.subIn K (.ref x_BadMode) (.type "BaseException") = some true)
    (kp_BadMode : PySem.W.keepIn K (.ref x_BadMode) = true)
    (ga_BadMode : PySem.W.findIn K (.ref x_BadMode) "__getattribute__" = some (some (.builtin "BaseException.__getattribute__")))
    (gg_BadMode : PySem.W.findIn K (.ref x_BadMode) "__getattr__" = some none)
    (hd_BadMode : PySem.W.hasDictIn K x_BadMode = true)
    (cc_BadMode : PySem.W.findIn K (.ref x_BadMode) "__class__" = some (some (.builtin "object.__class__")))
    (mo_BadMode : PySem.W.mroIn K x_BadMode (.type "object") = some true)
    (npart_BadMode : PySem.W.findIn K (.ref x_BadMode) "part" = some none)
    (in_BadMode : PySem.W.findIn K (.ref x_BadMode) "__init__" = some (some (.ref f_BadModeD_initD)))
    (tf_BadMode : PySem.W.typeIn K (.ref f_BadModeD_initD) = some (.type "function"))
    (l_BadModeD_initD : K.lookup f_BadModeD_initD = some ⟨oc_BadModeD_initD, od_BadModeD_initD, .func (PySem.W.fnOf "__init__" "BadMode.__init__" (defArgs s_BadModeD_initD) (defBody s_BadModeD_initD) (defScope s_BadModeD_initD) .none kV_BadModeD_initD dc_BadModeD_initD pm_BadModeD_initD an_BadModeD_initD cd_BadModeD_initD ct_BadModeD_initD), sl_BadModeD_initD⟩)
    (co_BadModeD_initD : PySem.W.codeIn K cd_BadModeD_initD "BadMode.__init__" = true)
    (kp_BadModeD_initD : PySem.W.keepIn K (.ref f_BadModeD_initD) = true)
    (xl_BadClause : K.lookup x_BadClause = some (excClassObj nm_BadClause q_BadClause x_BadClause N_BadClause bs_BadClause bm_BadClause true sn_BadClause sub_BadClause ab_BadClause col_BadClause dd_BadClause m0_BadClause m1_BadClause m2_BadClause m3_BadClause m5_BadClause "ValueError.__new__"))
    (be_BadClause : bm_BadClause = [.ref x_BadInput, .ref x_ModesError, .type "ValueError", .type "Exception", .type "BaseException", .type "object"])
    (rf_BadClause : PySem.HandSPX.refsVE bm_BadClause = true)
    (sa_BadClause : PySem.W.findIn K (.ref x_BadClause) "__setattr__" = some (some (.builtin "object.__setattr__")))
    (ex_BadClause : PySem.W.subIn K (.ref x_BadClause) (.type "BaseException") = some true)
    (kp_BadClause : PySem.W.keepIn K (.ref x_BadClause) = true)
    (ga_BadClause : PySem.W.findIn K (.ref x_BadClause) "__getattribute__" = some (some (.builtin "BaseException.__getattribute__")))
    (gg_BadClause : PySem.W.findIn K (.ref x_BadClause) "__getattr__" = some none)
    (hd_BadClause : PySem.W.hasDictIn K x_BadClause = true)
    (cc_BadClause : PySem.W.findIn K (.ref x_BadClause) "__class__" = some (some (.builtin "object.__class__")))
    (mo_BadClause : PySem.W.mroIn K x_BadClause (.type "object") = some true)
    (nat_BadClause : PySem.W.findIn K (.ref x_BadClause) "at" = some none)
    (in_BadClause : PySem.W.findIn K (.ref x_BadClause) "__init__" = some (some (.ref f_BadClauseD_initD)))
    (tf_BadClause : PySem.W.typeIn K (.ref f_BadClauseD_initD) = some (.type "function"))
    (l_BadClauseD_initD : K.lookup f_BadClauseD_initD = some ⟨oc_BadClauseD_initD, od_BadClauseD_initD, .func (PySem.W.fnOf "__init__" "BadClause.__init__" (defArgs s_BadClauseD_initD) (defBody s_BadClauseD_initD) (defScope s_BadClauseD_initD) .none kV_BadClauseD_initD dc_BadClauseD_initD pm_BadClauseD_initD an_BadClauseD_initD cd_BadClauseD_initD ct_BadClauseD_initD), sl_BadClauseD_initD⟩)
    (co_BadClauseD_initD : PySem.W.codeIn K cd_BadClauseD_initD "BadClause.__init__" = true)
    (kp_BadClauseD_initD : PySem.W.keepIn K (.ref f_BadClauseD_initD) = true)
    (xl_BadName : K.lookup x_BadName = some (excClassObj nm_BadName q_BadName x_BadName N_BadName bs_BadName bm_BadName true sn_BadName sub_BadName ab_BadName col_BadName dd_BadName m0_BadName m1_BadName m2_BadName m3_BadName m5_BadName "ValueError.__new__"))
    (be_BadName : bm_BadName = [.ref x_BadInput, .ref x_ModesError, .type "ValueError", .type "Exception", .type "BaseException", .type "object"])
    (rf_BadName : PySem.HandSPX.refsVE bm_BadName = true)
    (sa_BadName : PySem.W.findIn K (.ref x_BadName) "__setattr__" = some (some (.builtin "object.__setattr__")))
    (ex_BadName : PySem.W.subIn K (.ref x_BadName) (.type "BaseException") = some true)
    (kp_BadName : PySem.W.keepIn K (.ref x_BadName) = true)
    (ga_BadName : PySem.W.findIn K (.ref x_BadName) "__getattribute__" = some (some (.builtin "BaseException.__getattribute__")))
    (gg_BadName : PySem.W.findIn K (.ref x_BadName) "__getattr__" = some none)
    (hd_BadName : PySem.W.hasDictIn K x_BadName = true)
    (cc_BadName : PySem.W.findIn K (.ref x_BadName) "__class__" = some (some (.builtin "object.__class__")))
    (mo_BadName : PySem.W.mroIn K x_BadName (.type "object") = some true)
    (nname_BadName : PySem.W.findIn K (.ref x_BadName) "name" = some none)
    (in_BadName : PySem.W.findIn K (.ref x_BadName) "__init__" = some (some (.ref f_BadNameD_initD)))
    (tf_BadName : PySem.W.typeIn K (.ref f_BadNameD_initD) = some (.type "function"))
    (l_BadNameD_initD : K.lookup f_BadNameD_initD = some ⟨oc_BadNameD_initD, od_BadNameD_initD, .func (PySem.W.fnOf "__init__" "BadName.__init__" (defArgs s_BadNameD_initD) (defBody s_BadNameD_initD) (defScope s_BadNameD_initD) .none kV_BadNameD_initD dc_BadNameD_initD pm_BadNameD_initD an_BadNameD_initD cd_BadNameD_initD ct_BadNameD_initD), sl_BadNameD_initD⟩)
    (co_BadNameD_initD : PySem.W.codeIn K cd_BadNameD_initD "BadName.__init__" = true)
    (kp_BadNameD_initD : PySem.W.keepIn K (.ref f_BadNameD_initD) = true)
    (xl_BadPath : K.lookup x_BadPath = some (excClassObj nm_BadPath q_BadPath x_BadPath N_BadPath bs_BadPath bm_BadPath true sn_BadPath sub_BadPath ab_BadPath col_BadPath dd_BadPath m0_BadPath m1_BadPath m2_BadPath m3_BadPath m5_BadPath "ValueError.__new__"))
    (be_BadPath : bm_BadPath = [.ref x_BadInput, .ref x_ModesError, .type "ValueError", .type "Exception", .type "BaseException", .type "object"])
    (rf_BadPath : PySem.HandSPX.refsVE bm_BadPath = true)
    (sa_BadPath : PySem.W.findIn K (.ref x_BadPath) "__setattr__" = some (some (.builtin "object.__setattr__")))
    (ex_BadPath : PySem.W.subIn K (.ref x_BadPath) (.type "BaseException") = some true)
    (kp_BadPath : PySem.W.keepIn K (.ref x_BadPath) = true)
    (ga_BadPath : PySem.W.findIn K (.ref x_BadPath) "__getattribute__" = some (some (.builtin "BaseException.__getattribute__")))
    (gg_BadPath : PySem.W.findIn K (.ref x_BadPath) "__getattr__" = some none)
    (hd_BadPath : PySem.W.hasDictIn K x_BadPath = true)
    (cc_BadPath : PySem.W.findIn K (.ref x_BadPath) "__class__" = some (some (.builtin "object.__class__")))
    (mo_BadPath : PySem.W.mroIn K x_BadPath (.type "object") = some true)
    (npath_BadPath : PySem.W.findIn K (.ref x_BadPath) "path" = some none)
    (in_BadPath : PySem.W.findIn K (.ref x_BadPath) "__init__" = some (some (.ref f_BadPathD_initD)))
    (tf_BadPath : PySem.W.typeIn K (.ref f_BadPathD_initD) = some (.type "function"))
    (l_BadPathD_initD : K.lookup f_BadPathD_initD = some ⟨oc_BadPathD_initD, od_BadPathD_initD, .func (PySem.W.fnOf "__init__" "BadPath.__init__" (defArgs s_BadPathD_initD) (defBody s_BadPathD_initD) (defScope s_BadPathD_initD) .none kV_BadPathD_initD dc_BadPathD_initD pm_BadPathD_initD an_BadPathD_initD cd_BadPathD_initD ct_BadPathD_initD), sl_BadPathD_initD⟩)
    (co_BadPathD_initD : PySem.W.codeIn K cd_BadPathD_initD "BadPath.__init__" = true)
    (kp_BadPathD_initD : PySem.W.keepIn K (.ref f_BadPathD_initD) = true)
    (xl_BadUser : K.lookup x_BadUser = some (excClassObj nm_BadUser q_BadUser x_BadUser N_BadUser bs_BadUser bm_BadUser true sn_BadUser sub_BadUser ab_BadUser col_BadUser dd_BadUser m0_BadUser m1_BadUser m2_BadUser m3_BadUser m5_BadUser "ValueError.__new__"))
    (be_BadUser : bm_BadUser = [.ref x_BadInput, .ref x_ModesError, .type "ValueError", .type "Exception", .type "BaseException", .type "object"])
    (rf_BadUser : PySem.HandSPX.refsVE bm_BadUser = true)
    (sa_BadUser : PySem.W.findIn K (.ref x_BadUser) "__setattr__" = some (some (.builtin "object.__setattr__")))
    (ex_BadUser : PySem.W.subIn K (.ref x_BadUser) (.type "BaseException") = some true)
    (kp_BadUser : PySem.W.keepIn K (.ref x_BadUser) = true)
    (ga_BadUser : PySem.W.findIn K (.ref x_BadUser) "__getattribute__" = some (some (.builtin "BaseException.__getattribute__")))
    (gg_BadUser : PySem.W.findIn K (.ref x_BadUser) "__getattr__" = some none)
    (hd_BadUser : PySem.W.hasDictIn K x_BadUser = true)
    (cc_BadUser : PySem.W.findIn K (.ref x_BadUser) "__class__" = some (some (.builtin "object.__class__")))
    (mo_BadUser : PySem.W.mroIn K x_BadUser (.type "object") = some true)
    (npart_BadUser : PySem.W.findIn K (.ref x_BadUser) "part" = some none)
    (in_BadUser : PySem.W.findIn K (.ref x_BadUser) "__init__" = some (some (.ref f_BadUserD_initD)))
    (tf_BadUser : PySem.W.typeIn K (.ref f_BadUserD_initD) = some (.type "function"))
    (l_BadUserD_initD : K.lookup f_BadUserD_initD = some ⟨oc_BadUserD_initD, od_BadUserD_initD, .func (PySem.W.fnOf "__init__" "BadUser.__init__" (defArgs s_BadUserD_initD) (defBody s_BadUserD_initD) (defScope s_BadUserD_initD) .none kV_BadUserD_initD dc_BadUserD_initD pm_BadUserD_initD an_BadUserD_initD cd_BadUserD_initD ct_BadUserD_initD), sl_BadUserD_initD⟩)
    (co_BadUserD_initD : PySem.W.codeIn K cd_BadUserD_initD "BadUser.__init__" = true)
    (kp_BadUserD_initD : PySem.W.keepIn K (.ref f_BadUserD_initD) = true)
    (xl_BadCommand : K.lookup x_BadCommand = some (excClassObj nm_BadCommand q_BadCommand x_BadCommand N_BadCommand bs_BadCommand bm_BadCommand true sn_BadCommand sub_BadCommand ab_BadCommand col_BadCommand dd_BadCommand m0_BadCommand m1_BadCommand m2_BadCommand m3_BadCommand m5_BadCommand "ValueError.__new__"))
    (be_BadCommand : bm_BadCommand = [.ref x_BadInput, .ref x_ModesError, .type "ValueError", .type "Exception", .type "BaseException", .type "object"])
    (rf_BadCommand : PySem.HandSPX.refsVE bm_BadCommand = true)
    (sa_BadCommand : PySem.W.findIn K (.ref x_BadCommand) "__setattr__" = some (some (.builtin "object.__setattr__")))
    (ex_BadCommand : PySem.W.subIn K (.ref x_BadCommand) (.type "BaseException") = some true)
    (kp_BadCommand : PySem.W.keepIn K (.ref x_BadCommand) = true)
    (ga_BadCommand : PySem.W.findIn K (.ref x_BadCommand) "__getattribute__" = some (some (.builtin "BaseException.__getattribute__")))
    (gg_BadCommand : PySem.W.findIn K (.ref x_BadCommand) "__getattr__" = some none)
    (hd_BadCommand : PySem.W.hasDictIn K x_BadCommand = true)
    (cc_BadCommand : PySem.W.findIn K (.ref x_BadCommand) "__class__" = some (some (.builtin "object.__class__")))
    (mo_BadCommand : PySem.W.mroIn K x_BadCommand (.type "object") = some true)
    (npart_BadCommand : PySem.W.findIn K (.ref x_BadCommand) "part" = some none)
    (in_BadCommand : PySem.W.findIn K (.ref x_BadCommand) "__init__" = some (some (.ref f_BadCommandD_initD)))
    (tf_BadCommand : PySem.W.typeIn K (.ref f_BadCommandD_initD) = some (.type "function"))
    (l_BadCommandD_initD : K.lookup f_BadCommandD_initD = some ⟨oc_BadCommandD_initD, od_BadCommandD_initD, .func (PySem.W.fnOf "__init__" "BadCommand.__init__" (defArgs s_BadCommandD_initD) (defBody s_BadCommandD_initD) (defScope s_BadCommandD_initD) .none kV_BadCommandD_initD dc_BadCommandD_initD pm_BadCommandD_initD an_BadCommandD_initD cd_BadCommandD_initD ct_BadCommandD_initD), sl_BadCommandD_initD⟩)
    (co_BadCommandD_initD : PySem.W.codeIn K cd_BadCommandD_initD "BadCommand.__init__" = true)
    (kp_BadCommandD_initD : PySem.W.keepIn K (.ref f_BadCommandD_initD) = true)
    (xl_BadKind : K.lookup x_BadKind = some (excClassObj nm_BadKind q_BadKind x_BadKind N_BadKind bs_BadKind bm_BadKind true sn_BadKind sub_BadKind ab_BadKind col_BadKind dd_BadKind m0_BadKind m1_BadKind m2_BadKind m3_BadKind m5_BadKind "ValueError.__new__"))
    (be_BadKind : bm_BadKind = [.ref x_BadInput, .ref x_ModesError, .type "ValueError", .type "Exception", .type "BaseException", .type "object"])
    (rf_BadKind : PySem.HandSPX.refsVE bm_BadKind = true)
    (sa_BadKind : PySem.W.findIn K (.ref x_BadKind) "__setattr__" = some (some (.builtin "object.__setattr__")))
    (ex_BadKind : PySem.W.subIn K (.ref x_BadKind) (.type "BaseException") = some true)
    (kp_BadKind : PySem.W.keepIn K (.ref x_BadKind) = true)
    (ga_BadKind : PySem.W.findIn K (.ref x_BadKind) "__getattribute__" = some (some (.builtin "BaseException.__getattribute__")))
    (gg_BadKind : PySem.W.findIn K (.ref x_BadKind) "__getattr__" = some none)
    (hd_BadKind : PySem.W.hasDictIn K x_BadKind = true)
    (cc_BadKind : PySem.W.findIn K (.ref x_BadKind) "__class__" = some (some (.builtin "object.__class__")))
    (mo_BadKind : PySem.W.mroIn K x_BadKind (.type "object") = some true)
    (nat_BadKind : PySem.W.findIn K (.ref x_BadKind) "at" = some none)
    (in_BadKind : PySem.W.findIn K (.ref x_BadKind) "__init__" = some (some (.ref f_BadKindD_initD)))
    (tf_BadKind : PySem.W.typeIn K (.ref f_BadKindD_initD) = some (.type "function"))
    (l_BadKindD_initD : K.lookup f_BadKindD_initD = some ⟨oc_BadKindD_initD, od_BadKindD_initD, .func (PySem.W.fnOf "__init__" "BadKind.__init__" (defArgs s_BadKindD_initD) (defBody s_BadKindD_initD) (defScope s_BadKindD_initD) .none kV_BadKindD_initD dc_BadKindD_initD pm_BadKindD_initD an_BadKindD_initD cd_BadKindD_initD ct_BadKindD_initD), sl_BadKindD_initD⟩)
    (co_BadKindD_initD : PySem.W.codeIn K cd_BadKindD_initD "BadKind.__init__" = true)
    (kp_BadKindD_initD : PySem.W.keepIn K (.ref f_BadKindD_initD) = true)
    (xl_BadStand : K.lookup x_BadStand = some (excClassObj nm_BadStand q_BadStand x_BadStand N_BadStand bs_BadStand bm_BadStand true sn_BadStand sub_BadStand ab_BadStand col_BadStand dd_BadStand m0_BadStand m1_BadStand m2_BadStand m3_BadStand m5_BadStand "ValueError.__new__"))
    (be_BadStand : bm_BadStand = [.ref x_BadInput, .ref x_ModesError, .type "ValueError", .type "Exception", .type "BaseException", .type "object"])
    (rf_BadStand : PySem.HandSPX.refsVE bm_BadStand = true)
    (sa_BadStand : PySem.W.findIn K (.ref x_BadStand) "__setattr__" = some (some (.builtin "object.__setattr__")))
    (ex_BadStand : PySem.W.subIn K (.ref x_BadStand) (.type "BaseException") = some true)
    (kp_BadStand : PySem.W.keepIn K (.ref x_BadStand) = true)
    (ga_BadStand : PySem.W.findIn K (.ref x_BadStand) "__getattribute__" = some (some (.builtin "BaseException.__getattribute__")))
    (gg_BadStand : PySem.W.findIn K (.ref x_BadStand) "__getattr__" = some none)
    (hd_BadStand : PySem.W.hasDictIn K x_BadStand = true)
    (cc_BadStand : PySem.W.findIn K (.ref x_BadStand) "__class__" = some (some (.builtin "object.__class__")))
    (mo_BadStand : PySem.W.mroIn K x_BadStand (.type "object") = some true)
    (nindex_BadStand : PySem.W.findIn K (.ref x_BadStand) "index" = some none)
    (in_BadStand : PySem.W.findIn K (.ref x_BadStand) "__init__" = some (some (.ref f_BadStandD_initD)))
    (tf_BadStand : PySem.W.typeIn K (.ref f_BadStandD_initD) = some (.type "function"))
    (l_BadStandD_initD : K.lookup f_BadStandD_initD = some ⟨oc_BadStandD_initD, od_BadStandD_initD, .func (PySem.W.fnOf "__init__" "BadStand.__init__" (defArgs s_BadStandD_initD) (defBody s_BadStandD_initD) (defScope s_BadStandD_initD) .none kV_BadStandD_initD dc_BadStandD_initD pm_BadStandD_initD an_BadStandD_initD cd_BadStandD_initD ct_BadStandD_initD), sl_BadStandD_initD⟩)
    (co_BadStandD_initD : PySem.W.codeIn K cd_BadStandD_initD "BadStand.__init__" = true)
    (kp_BadStandD_initD : PySem.W.keepIn K (.ref f_BadStandD_initD) = true)
    (xl_BadBeat : K.lookup x_BadBeat = some (excClassObj nm_BadBeat q_BadBeat x_BadBeat N_BadBeat bs_BadBeat bm_BadBeat true sn_BadBeat sub_BadBeat ab_BadBeat col_BadBeat dd_BadBeat m0_BadBeat m1_BadBeat m2_BadBeat m3_BadBeat m5_BadBeat "ValueError.__new__"))
    (be_BadBeat : bm_BadBeat = [.ref x_BadInput, .ref x_ModesError, .type "ValueError", .type "Exception", .type "BaseException", .type "object"])
    (rf_BadBeat : PySem.HandSPX.refsVE bm_BadBeat = true)
    (sa_BadBeat : PySem.W.findIn K (.ref x_BadBeat) "__setattr__" = some (some (.builtin "object.__setattr__")))
    (ex_BadBeat : PySem.W.subIn K (.ref x_BadBeat) (.type "BaseException") = some true)
    (kp_BadBeat : PySem.W.keepIn K (.ref x_BadBeat) = true)
    (ga_BadBeat : PySem.W.findIn K (.ref x_BadBeat) "__getattribute__" = some (some (.builtin "BaseException.__getattribute__")))
    (gg_BadBeat : PySem.W.findIn K (.ref x_BadBeat) "__getattr__" = some none)
    (hd_BadBeat : PySem.W.hasDictIn K x_BadBeat = true)
    (cc_BadBeat : PySem.W.findIn K (.ref x_BadBeat) "__class__" = some (some (.builtin "object.__class__")))
    (mo_BadBeat : PySem.W.mroIn K x_BadBeat (.type "object") = some true)
    (npart_BadBeat : PySem.W.findIn K (.ref x_BadBeat) "part" = some none)
    (in_BadBeat : PySem.W.findIn K (.ref x_BadBeat) "__init__" = some (some (.ref f_BadBeatD_initD)))
    (tf_BadBeat : PySem.W.typeIn K (.ref f_BadBeatD_initD) = some (.type "function"))
    (l_BadBeatD_initD : K.lookup f_BadBeatD_initD = some ⟨oc_BadBeatD_initD, od_BadBeatD_initD, .func (PySem.W.fnOf "__init__" "BadBeat.__init__" (defArgs s_BadBeatD_initD) (defBody s_BadBeatD_initD) (defScope s_BadBeatD_initD) .none kV_BadBeatD_initD dc_BadBeatD_initD pm_BadBeatD_initD an_BadBeatD_initD cd_BadBeatD_initD ct_BadBeatD_initD), sl_BadBeatD_initD⟩)
    (co_BadBeatD_initD : PySem.W.codeIn K cd_BadBeatD_initD "BadBeat.__init__" = true)
    (kp_BadBeatD_initD : PySem.W.keepIn K (.ref f_BadBeatD_initD) = true)
    (xl_BadText : K.lookup x_BadText = some (excClassObj nm_BadText q_BadText x_BadText N_BadText bs_BadText bm_BadText true sn_BadText sub_BadText ab_BadText col_BadText dd_BadText m0_BadText m1_BadText m2_BadText m3_BadText m5_BadText "ValueError.__new__"))
    (be_BadText : bm_BadText = [.ref x_BadInput, .ref x_ModesError, .type "ValueError", .type "Exception", .type "BaseException", .type "object"])
    (rf_BadText : PySem.HandSPX.refsVE bm_BadText = true)
    (sa_BadText : PySem.W.findIn K (.ref x_BadText) "__setattr__" = some (some (.builtin "object.__setattr__")))
    (ex_BadText : PySem.W.subIn K (.ref x_BadText) (.type "BaseException") = some true)
    (kp_BadText : PySem.W.keepIn K (.ref x_BadText) = true)
    (ga_BadText : PySem.W.findIn K (.ref x_BadText) "__getattribute__" = some (some (.builtin "BaseException.__getattribute__")))
    (gg_BadText : PySem.W.findIn K (.ref x_BadText) "__getattr__" = some none)
    (hd_BadText : PySem.W.hasDictIn K x_BadText = true)
    (cc_BadText : PySem.W.findIn K (.ref x_BadText) "__class__" = some (some (.builtin "object.__class__")))
    (mo_BadText : PySem.W.mroIn K x_BadText (.type "object") = some true)
    (nline_BadText : PySem.W.findIn K (.ref x_BadText) "line" = some none)
    (nword_BadText : PySem.W.findIn K (.ref x_BadText) "word" = some none)
    (in_BadText : PySem.W.findIn K (.ref x_BadText) "__init__" = some (some (.ref f_BadTextD_initD)))
    (tf_BadText : PySem.W.typeIn K (.ref f_BadTextD_initD) = some (.type "function"))
    (l_BadTextD_initD : K.lookup f_BadTextD_initD = some ⟨oc_BadTextD_initD, od_BadTextD_initD, .func (PySem.W.fnOf "__init__" "BadText.__init__" (defArgs s_BadTextD_initD) (defBody s_BadTextD_initD) (defScope s_BadTextD_initD) .none kV_BadTextD_initD dc_BadTextD_initD pm_BadTextD_initD an_BadTextD_initD cd_BadTextD_initD ct_BadTextD_initD), sl_BadTextD_initD⟩)
    (co_BadTextD_initD : PySem.W.codeIn K cd_BadTextD_initD "BadText.__init__" = true)
    (kp_BadTextD_initD : PySem.W.keepIn K (.ref f_BadTextD_initD) = true)
    (xl_NoEntry : K.lookup x_NoEntry = some (excClassObj nm_NoEntry q_NoEntry x_NoEntry N_NoEntry bs_NoEntry bm_NoEntry true sn_NoEntry sub_NoEntry ab_NoEntry col_NoEntry dd_NoEntry m0_NoEntry m1_NoEntry m2_NoEntry m3_NoEntry m5_NoEntry "ValueError.__new__"))
    (be_NoEntry : bm_NoEntry = [.ref x_NoWay, .ref x_ModesError, .type "ValueError", .type "Exception", .type "BaseException", .type "object"])
    (rf_NoEntry : PySem.HandSPX.refsVE bm_NoEntry = true)
    (sa_NoEntry : PySem.W.findIn K (.ref x_NoEntry) "__setattr__" = some (some (.builtin "object.__setattr__")))
    (ex_NoEntry : PySem.W.subIn K (.ref x_NoEntry) (.type "BaseException") = some true)
    (kp_NoEntry : PySem.W.keepIn K (.ref x_NoEntry) = true)
    (ga_NoEntry : PySem.W.findIn K (.ref x_NoEntry) "__getattribute__" = some (some (.builtin "BaseException.__getattribute__")))
    (gg_NoEntry : PySem.W.findIn K (.ref x_NoEntry) "__getattr__" = some none)
    (hd_NoEntry : PySem.W.hasDictIn K x_NoEntry = true)
    (cc_NoEntry : PySem.W.findIn K (.ref x_NoEntry) "__class__" = some (some (.builtin "object.__class__")))
    (mo_NoEntry : PySem.W.mroIn K x_NoEntry (.type "object") = some true)
    (npath_NoEntry : PySem.W.findIn K (.ref x_NoEntry) "path" = some none)
    (in_NoEntry : PySem.W.findIn K (.ref x_NoEntry) "__init__" = some (some (.ref f_NoEntryD_initD)))
    (tf_NoEntry : PySem.W.typeIn K (.ref f_NoEntryD_initD) = some (.type "function"))
    (l_NoEntryD_initD : K.lookup f_NoEntryD_initD = some ⟨oc_NoEntryD_initD, od_NoEntryD_initD, .func (PySem.W.fnOf "__init__" "NoEntry.__init__" (defArgs s_NoEntryD_initD) (defBody s_NoEntryD_initD) (defScope s_NoEntryD_initD) .none kV_NoEntryD_initD dc_NoEntryD_initD pm_NoEntryD_initD an_NoEntryD_initD cd_NoEntryD_initD ct_NoEntryD_initD), sl_NoEntryD_initD⟩)
    (co_NoEntryD_initD : PySem.W.codeIn K cd_NoEntryD_initD "NoEntry.__init__" = true)
    (kp_NoEntryD_initD : PySem.W.keepIn K (.ref f_NoEntryD_initD) = true)
    (xl_NoCommand : K.lookup x_NoCommand = some (excClassObj nm_NoCommand q_NoCommand x_NoCommand N_NoCommand bs_NoCommand bm_NoCommand true sn_NoCommand sub_NoCommand ab_NoCommand col_NoCommand dd_NoCommand m0_NoCommand m1_NoCommand m2_NoCommand m3_NoCommand m5_NoCommand "ValueError.__new__"))
    (be_NoCommand : bm_NoCommand = [.ref x_NoWay, .ref x_ModesError, .type "ValueError", .type "Exception", .type "BaseException", .type "object"])
    (rf_NoCommand : PySem.HandSPX.refsVE bm_NoCommand = true)
    (sa_NoCommand : PySem.W.findIn K (.ref x_NoCommand) "__setattr__" = some (some (.builtin "object.__setattr__")))
    (ex_NoCommand : PySem.W.subIn K (.ref x_NoCommand) (.type "BaseException") = some true)
    (kp_NoCommand : PySem.W.keepIn K (.ref x_NoCommand) = true)
    (ga_NoCommand : PySem.W.findIn K (.ref x_NoCommand) "__getattribute__" = some (some (.builtin "BaseException.__getattribute__")))
    (gg_NoCommand : PySem.W.findIn K (.ref x_NoCommand) "__getattr__" = some none)
    (hd_NoCommand : PySem.W.hasDictIn K x_NoCommand = true)
    (cc_NoCommand : PySem.W.findIn K (.ref x_NoCommand) "__class__" = some (some (.builtin "object.__class__")))
    (mo_NoCommand : PySem.W.mroIn K x_NoCommand (.type "object") = some true)
    (nindex_NoCommand : PySem.W.findIn K (.ref x_NoCommand) "index" = some none)
    (in_NoCommand : PySem.W.findIn K (.ref x_NoCommand) "__init__" = some (some (.ref f_NoCommandD_initD)))
    (tf_NoCommand : PySem.W.typeIn K (.ref f_NoCommandD_initD) = some (.type "function"))
    (l_NoCommandD_initD : K.lookup f_NoCommandD_initD = some ⟨oc_NoCommandD_initD, od_NoCommandD_initD, .func (PySem.W.fnOf "__init__" "NoCommand.__init__" (defArgs s_NoCommandD_initD) (defBody s_NoCommandD_initD) (defScope s_NoCommandD_initD) .none kV_NoCommandD_initD dc_NoCommandD_initD pm_NoCommandD_initD an_NoCommandD_initD cd_NoCommandD_initD ct_NoCommandD_initD), sl_NoCommandD_initD⟩)
    (co_NoCommandD_initD : PySem.W.codeIn K cd_NoCommandD_initD "NoCommand.__init__" = true)
    (kp_NoCommandD_initD : PySem.W.keepIn K (.ref f_NoCommandD_initD) = true)
    (xl_NoStand : K.lookup x_NoStand = some (excClassObj nm_NoStand q_NoStand x_NoStand N_NoStand bs_NoStand bm_NoStand true sn_NoStand sub_NoStand ab_NoStand col_NoStand dd_NoStand m0_NoStand m1_NoStand m2_NoStand m3_NoStand m5_NoStand "ValueError.__new__"))
    (be_NoStand : bm_NoStand = [.ref x_NoWay, .ref x_ModesError, .type "ValueError", .type "Exception", .type "BaseException", .type "object"])
    (rf_NoStand : PySem.HandSPX.refsVE bm_NoStand = true)
    (sa_NoStand : PySem.W.findIn K (.ref x_NoStand) "__setattr__" = some (some (.builtin "object.__setattr__")))
    (ex_NoStand : PySem.W.subIn K (.ref x_NoStand) (.type "BaseException") = some true)
    (kp_NoStand : PySem.W.keepIn K (.ref x_NoStand) = true)
    (ga_NoStand : PySem.W.findIn K (.ref x_NoStand) "__getattribute__" = some (some (.builtin "BaseException.__getattribute__")))
    (gg_NoStand : PySem.W.findIn K (.ref x_NoStand) "__getattr__" = some none)
    (hd_NoStand : PySem.W.hasDictIn K x_NoStand = true)
    (cc_NoStand : PySem.W.findIn K (.ref x_NoStand) "__class__" = some (some (.builtin "object.__class__")))
    (mo_NoStand : PySem.W.mroIn K x_NoStand (.type "object") = some true)
    (njoint_NoStand : PySem.W.findIn K (.ref x_NoStand) "joint" = some none)
    (in_NoStand : PySem.W.findIn K (.ref x_NoStand) "__init__" = some (some (.ref f_NoStandD_initD)))
    (tf_NoStand : PySem.W.typeIn K (.ref f_NoStandD_initD) = some (.type "function"))
    (l_NoStandD_initD : K.lookup f_NoStandD_initD = some ⟨oc_NoStandD_initD, od_NoStandD_initD, .func (PySem.W.fnOf "__init__" "NoStand.__init__" (defArgs s_NoStandD_initD) (defBody s_NoStandD_initD) (defScope s_NoStandD_initD) .none kV_NoStandD_initD dc_NoStandD_initD pm_NoStandD_initD an_NoStandD_initD cd_NoStandD_initD ct_NoStandD_initD), sl_NoStandD_initD⟩)
    (co_NoStandD_initD : PySem.W.codeIn K cd_NoStandD_initD "NoStand.__init__" = true)
    (kp_NoStandD_initD : PySem.W.keepIn K (.ref f_NoStandD_initD) = true)
    (xl_TooMany : K.lookup x_TooMany = some (excClassObj nm_TooMany q_TooMany x_TooMany N_TooMany bs_TooMany bm_TooMany true sn_TooMany sub_TooMany ab_TooMany col_TooMany dd_TooMany m0_TooMany m1_TooMany m2_TooMany m3_TooMany m5_TooMany "ValueError.__new__"))
    (be_TooMany : bm_TooMany = [.ref x_NoWay, .ref x_ModesError, .type "ValueError", .type "Exception", .type "BaseException", .type "object"])
    (rf_TooMany : PySem.HandSPX.refsVE bm_TooMany = true)
    (sa_TooMany : PySem.W.findIn K (.ref x_TooMany) "__setattr__" = some (some (.builtin "object.__setattr__")))
    (ex_TooMany : PySem.W.subIn K (.ref x_TooMany) (.type "BaseException") = some true)
    (kp_TooMany : PySem.W.keepIn K (.ref x_TooMany) = true)
    (ga_TooMany : PySem.W.findIn K (.ref x_TooMany) "__getattribute__" = some (some (.builtin "BaseException.__getattribute__")))
    (gg_TooMany : PySem.W.findIn K (.ref x_TooMany) "__getattr__" = some none)
    (hd_TooMany : PySem.W.hasDictIn K x_TooMany = true)
    (cc_TooMany : PySem.W.findIn K (.ref x_TooMany) "__class__" = some (some (.builtin "object.__class__")))
    (mo_TooMany : PySem.W.mroIn K x_TooMany (.type "object") = some true)
    (nmost_TooMany : PySem.W.findIn K (.ref x_TooMany) "most" = some none)
    (in_TooMany : PySem.W.findIn K (.ref x_TooMany) "__init__" = some (some (.ref f_TooManyD_initD)))
    (tf_TooMany : PySem.W.typeIn K (.ref f_TooManyD_initD) = some (.type "function"))
    (l_TooManyD_initD : K.lookup f_TooManyD_initD = some ⟨oc_TooManyD_initD, od_TooManyD_initD, .func (PySem.W.fnOf "__init__" "TooMany.__init__" (defArgs s_TooManyD_initD) (defBody s_TooManyD_initD) (defScope s_TooManyD_initD) .none kV_TooManyD_initD dc_TooManyD_initD pm_TooManyD_initD an_TooManyD_initD cd_TooManyD_initD ct_TooManyD_initD), sl_TooManyD_initD⟩)
    (co_TooManyD_initD : PySem.W.codeIn K cd_TooManyD_initD "TooMany.__init__" = true)
    (kp_TooManyD_initD : PySem.W.keepIn K (.ref f_TooManyD_initD) = true)
    (xl_NoKind : K.lookup x_NoKind = some (excClassObj nm_NoKind q_NoKind x_NoKind N_NoKind bs_NoKind bm_NoKind true sn_NoKind sub_NoKind ab_NoKind col_NoKind dd_NoKind m0_NoKind m1_NoKind m2_NoKind m3_NoKind m5_NoKind "ValueError.__new__"))
    (be_NoKind : bm_NoKind = [.ref x_NoWay, .ref x_ModesError, .type "ValueError", .type "Exception", .type "BaseException", .type "object"])
    (rf_NoKind : PySem.HandSPX.refsVE bm_NoKind = true)
    (sa_NoKind : PySem.W.findIn K (.ref x_NoKind) "__setattr__" = some (some (.builtin "object.__setattr__")))
    (ex_NoKind : PySem.W.subIn K (.ref x_NoKind) (.type "BaseException") = some true)
    (kp_NoKind : PySem.W.keepIn K (.ref x_NoKind) = true)
    (ga_NoKind : PySem.W.findIn K (.ref x_NoKind) "__getattribute__" = some (some (.builtin "BaseException.__getattribute__")))
    (gg_NoKind : PySem.W.findIn K (.ref x_NoKind) "__getattr__" = some none)
    (hd_NoKind : PySem.W.hasDictIn K x_NoKind = true)
    (cc_NoKind : PySem.W.findIn K (.ref x_NoKind) "__class__" = some (some (.builtin "object.__class__")))
    (mo_NoKind : PySem.W.mroIn K x_NoKind (.type "object") = some true)
    (in_NoKind : PySem.W.findIn K (.ref x_NoKind) "__init__" = some (some (.ref f_NoKindD_initD)))
    (tf_NoKind : PySem.W.typeIn K (.ref f_NoKindD_initD) = some (.type "function"))
    (l_NoKindD_initD : K.lookup f_NoKindD_initD = some ⟨oc_NoKindD_initD, od_NoKindD_initD, .func (PySem.W.fnOf "__init__" "NoKind.__init__" (defArgs s_NoKindD_initD) (defBody s_NoKindD_initD) (defScope s_NoKindD_initD) .none kV_NoKindD_initD dc_NoKindD_initD pm_NoKindD_initD an_NoKindD_initD cd_NoKindD_initD ct_NoKindD_initD), sl_NoKindD_initD⟩)
    (co_NoKindD_initD : PySem.W.codeIn K cd_NoKindD_initD "NoKind.__init__" = true)
    (kp_NoKindD_initD : PySem.W.keepIn K (.ref f_NoKindD_initD) = true)
    (in0 : PySem.W.specialIn K (.builtin "object.__class__") "__get__" = some (some (.builtin "getset_descriptor.__get__")))
    (it0 : PySem.W.takesIn K (.builtin "object.__class__") = some true)
    (a_law : PySem.W.nsIn K mainGlobals "law" = some (some (.ref f_law)))
    (l_law : K.lookup f_law = some ⟨oc_law, od_law, .func (PySem.W.fnOf "law" "law" (defArgs s_law) (defBody s_law) (defScope s_law) .none kV_law dc_law pm_law an_law cd_law ct_law), sl_law⟩)
    (co_law : PySem.W.codeIn K cd_law "law" = true)
    (kp_law : PySem.W.keepIn K (.ref f_law) = true)
    (lc_PM : K.lookup cM = some ⟨.type "code", od_cM, .fields vs_cM, sl_cM⟩)
    (v11_PM : vs_cM[11]? = some (.ref PM))
    (ch_PM : PySem.W.codeHdIn K cM PM = true)
    (kl_PM : K.lookup PM = none)
    (tb_PM : h.get? PM = some { cls := .none, data := .fields #[] })
    (lc_PN : K.lookup cN = some ⟨.type "code", od_cN, .fields vs_cN, sl_cN⟩)
    (v11_PN : vs_cN[11]? = some (.ref PN))
    (ch_PN : PySem.W.codeHdIn K cN PN = true)
    (kl_PN : K.lookup PN = none)
    (tb_PN : h.get? PN = some { cls := .none, data := .fields #[] })
    (ne_P : PM ≠ PN)
    (nd : ([x_BadMode, x_BadClause, x_BadName, x_BadPath, x_BadUser, x_BadCommand, x_BadKind, x_BadStand, x_BadBeat, x_BadText, x_NoEntry, x_NoCommand, x_NoStand, x_TooMany, x_NoKind, x_BadInput, x_NoWay, x_ModesError] : List Addr).Nodup)
    : KD.LawTop l w K "_law_script" mg fa h := by
  have e := hfa.symm.trans (PySem.W.mg_of X G a_law)
  obtain rfl : f_law = fa := by cases e; rfl
  have T : Txt w K mg { f__law_bag := f__law_bag, d__law_bag := PySem.W.fnOf "_law_bag" "_law_bag" (defArgs s__law_bag) (defBody s__law_bag) (defScope s__law_bag) .none kV__law_bag dc__law_bag pm__law_bag an__law_bag cd__law_bag ct__law_bag, f__law_draw := f__law_draw, d__law_draw := PySem.W.fnOf "_law_draw" "_law_draw" (defArgs s__law_draw) (defBody s__law_draw) (defScope s__law_draw) .none kV__law_draw dc__law_draw pm__law_draw an__law_draw cd__law_draw ct__law_draw, f__law_field := f__law_field, d__law_field := PySem.W.fnOf "_law_field" "_law_field" (defArgs s__law_field) (defBody s__law_field) (defScope s__law_field) .none kV__law_field dc__law_field pm__law_field an__law_field cd__law_field ct__law_field, f__law_made := f__law_made, d__law_made := PySem.W.fnOf "_law_made" "_law_made" (defArgs s__law_made) (defBody s__law_made) (defScope s__law_made) .none kV__law_made dc__law_made pm__law_made an__law_made (.ref cM) ct__law_made, f__law_named := f__law_named, d__law_named := PySem.W.fnOf "_law_named" "_law_named" (defArgs s__law_named) (defBody s__law_named) (defScope s__law_named) .none kV__law_named dc__law_named pm__law_named an__law_named (.ref cN) ct__law_named, f__law_fields := f__law_fields, d__law_fields := PySem.W.fnOf "_law_fields" "_law_fields" (defArgs s__law_fields) (defBody s__law_fields) (defScope s__law_fields) .none kV__law_fields dc__law_fields pm__law_fields an__law_fields cd__law_fields ct__law_fields, f__law_classes := f__law_classes, d__law_classes := PySem.W.fnOf "_law_classes" "_law_classes" (defArgs s__law_classes) (defBody s__law_classes) (defScope s__law_classes) .none kV__law_classes dc__law_classes pm__law_classes an__law_classes cd__law_classes ct__law_classes, x_BadMode := x_BadMode, x_BadClause := x_BadClause, x_BadName := x_BadName, x_BadPath := x_BadPath, x_BadUser := x_BadUser, x_BadCommand := x_BadCommand, x_BadKind := x_BadKind, x_BadStand := x_BadStand, x_BadBeat := x_BadBeat, x_BadText := x_BadText, x_NoEntry := x_NoEntry, x_NoCommand := x_NoCommand, x_NoStand := x_NoStand, x_TooMany := x_TooMany, x_NoKind := x_NoKind, x_BadInput := x_BadInput, x_NoWay := x_NoWay, x_ModesError := x_ModesError, f_BadModeD_initD := f_BadModeD_initD, d_BadModeD_initD := PySem.W.fnOf "__init__" "BadMode.__init__" (defArgs s_BadModeD_initD) (defBody s_BadModeD_initD) (defScope s_BadModeD_initD) .none kV_BadModeD_initD dc_BadModeD_initD pm_BadModeD_initD an_BadModeD_initD cd_BadModeD_initD ct_BadModeD_initD, f_BadClauseD_initD := f_BadClauseD_initD, d_BadClauseD_initD := PySem.W.fnOf "__init__" "BadClause.__init__" (defArgs s_BadClauseD_initD) (defBody s_BadClauseD_initD) (defScope s_BadClauseD_initD) .none kV_BadClauseD_initD dc_BadClauseD_initD pm_BadClauseD_initD an_BadClauseD_initD cd_BadClauseD_initD ct_BadClauseD_initD, f_BadNameD_initD := f_BadNameD_initD, d_BadNameD_initD := PySem.W.fnOf "__init__" "BadName.__init__" (defArgs s_BadNameD_initD) (defBody s_BadNameD_initD) (defScope s_BadNameD_initD) .none kV_BadNameD_initD dc_BadNameD_initD pm_BadNameD_initD an_BadNameD_initD cd_BadNameD_initD ct_BadNameD_initD, f_BadPathD_initD := f_BadPathD_initD, d_BadPathD_initD := PySem.W.fnOf "__init__" "BadPath.__init__" (defArgs s_BadPathD_initD) (defBody s_BadPathD_initD) (defScope s_BadPathD_initD) .none kV_BadPathD_initD dc_BadPathD_initD pm_BadPathD_initD an_BadPathD_initD cd_BadPathD_initD ct_BadPathD_initD, f_BadUserD_initD := f_BadUserD_initD, d_BadUserD_initD := PySem.W.fnOf "__init__" "BadUser.__init__" (defArgs s_BadUserD_initD) (defBody s_BadUserD_initD) (defScope s_BadUserD_initD) .none kV_BadUserD_initD dc_BadUserD_initD pm_BadUserD_initD an_BadUserD_initD cd_BadUserD_initD ct_BadUserD_initD, f_BadCommandD_initD := f_BadCommandD_initD, d_BadCommandD_initD := PySem.W.fnOf "__init__" "BadCommand.__init__" (defArgs s_BadCommandD_initD) (defBody s_BadCommandD_initD) (defScope s_BadCommandD_initD) .none kV_BadCommandD_initD dc_BadCommandD_initD pm_BadCommandD_initD an_BadCommandD_initD cd_BadCommandD_initD ct_BadCommandD_initD, f_BadKindD_initD := f_BadKindD_initD, d_BadKindD_initD := PySem.W.fnOf "__init__" "BadKind.__init__" (defArgs s_BadKindD_initD) (defBody s_BadKindD_initD) (defScope s_BadKindD_initD) .none kV_BadKindD_initD dc_BadKindD_initD pm_BadKindD_initD an_BadKindD_initD cd_BadKindD_initD ct_BadKindD_initD, f_BadStandD_initD := f_BadStandD_initD, d_BadStandD_initD := PySem.W.fnOf "__init__" "BadStand.__init__" (defArgs s_BadStandD_initD) (defBody s_BadStandD_initD) (defScope s_BadStandD_initD) .none kV_BadStandD_initD dc_BadStandD_initD pm_BadStandD_initD an_BadStandD_initD cd_BadStandD_initD ct_BadStandD_initD, f_BadBeatD_initD := f_BadBeatD_initD, d_BadBeatD_initD := PySem.W.fnOf "__init__" "BadBeat.__init__" (defArgs s_BadBeatD_initD) (defBody s_BadBeatD_initD) (defScope s_BadBeatD_initD) .none kV_BadBeatD_initD dc_BadBeatD_initD pm_BadBeatD_initD an_BadBeatD_initD cd_BadBeatD_initD ct_BadBeatD_initD, f_BadTextD_initD := f_BadTextD_initD, d_BadTextD_initD := PySem.W.fnOf "__init__" "BadText.__init__" (defArgs s_BadTextD_initD) (defBody s_BadTextD_initD) (defScope s_BadTextD_initD) .none kV_BadTextD_initD dc_BadTextD_initD pm_BadTextD_initD an_BadTextD_initD cd_BadTextD_initD ct_BadTextD_initD, f_NoEntryD_initD := f_NoEntryD_initD, d_NoEntryD_initD := PySem.W.fnOf "__init__" "NoEntry.__init__" (defArgs s_NoEntryD_initD) (defBody s_NoEntryD_initD) (defScope s_NoEntryD_initD) .none kV_NoEntryD_initD dc_NoEntryD_initD pm_NoEntryD_initD an_NoEntryD_initD cd_NoEntryD_initD ct_NoEntryD_initD, f_NoCommandD_initD := f_NoCommandD_initD, d_NoCommandD_initD := PySem.W.fnOf "__init__" "NoCommand.__init__" (defArgs s_NoCommandD_initD) (defBody s_NoCommandD_initD) (defScope s_NoCommandD_initD) .none kV_NoCommandD_initD dc_NoCommandD_initD pm_NoCommandD_initD an_NoCommandD_initD cd_NoCommandD_initD ct_NoCommandD_initD, f_NoStandD_initD := f_NoStandD_initD, d_NoStandD_initD := PySem.W.fnOf "__init__" "NoStand.__init__" (defArgs s_NoStandD_initD) (defBody s_NoStandD_initD) (defScope s_NoStandD_initD) .none kV_NoStandD_initD dc_NoStandD_initD pm_NoStandD_initD an_NoStandD_initD cd_NoStandD_initD ct_NoStandD_initD, f_TooManyD_initD := f_TooManyD_initD, d_TooManyD_initD := PySem.W.fnOf "__init__" "TooMany.__init__" (defArgs s_TooManyD_initD) (defBody s_TooManyD_initD) (defScope s_TooManyD_initD) .none kV_TooManyD_initD dc_TooManyD_initD pm_TooManyD_initD an_TooManyD_initD cd_TooManyD_initD ct_TooManyD_initD, f_NoKindD_initD := f_NoKindD_initD, d_NoKindD_initD := PySem.W.fnOf "__init__" "NoKind.__init__" (defArgs s_NoKindD_initD) (defBody s_NoKindD_initD) (defScope s_NoKindD_initD) .none kV_NoKindD_initD dc_NoKindD_initD pm_NoKindD_initD an_NoKindD_initD cd_NoKindD_initD ct_NoKindD_initD, cM := cM, PM := PM, cN := cN, PN := PN } := {
    b_isinstance := PySem.W.mg_none_of X G z_isinstance,
    b_int := PySem.W.mg_none_of X G z_int,
    b_list := PySem.W.mg_none_of X G z_list,
    b_len := PySem.W.mg_none_of X G z_len,
    b_abs := PySem.W.mg_none_of X G z_abs,
    b_range := PySem.W.mg_none_of X G z_range,
    b_repr := PySem.W.mg_none_of X G z_repr,
    b_ValueError := PySem.W.mg_none_of X G z_ValueError,
    mg__law_bag := PySem.W.mg_of X G a__law_bag,
    fn__law_bag := fun_mk (st := s__law_bag) l__law_bag co__law_bag kp__law_bag,
    mg__law_draw := PySem.W.mg_of X G a__law_draw,
    fn__law_draw := fun_mk (st := s__law_draw) l__law_draw co__law_draw kp__law_draw,
    mg__law_field := PySem.W.mg_of X G a__law_field,
    fn__law_field := fun_mk (st := s__law_field) l__law_field co__law_field kp__law_field,
    mg__law_made := PySem.W.mg_of X G a__law_made,
    fn__law_made := fun_mk (st := s__law_made) l__law_made co__law_made kp__law_made,
    mg__law_named := PySem.W.mg_of X G a__law_named,
    fn__law_named := fun_mk (st := s__law_named) l__law_named co__law_named kp__law_named,
    mg__law_fields := PySem.W.mg_of X G a__law_fields,
    fn__law_fields := fun_mk (st := s__law_fields) l__law_fields co__law_fields kp__law_fields,
    mg__law_classes := PySem.W.mg_of X G a__law_classes,
    fn__law_classes := fun_mk (st := s__law_classes) l__law_classes co__law_classes kp__law_classes,
    at__law_made := ⟨_, _, _, _, _, _, _, _, rfl, l__law_made⟩,
    co__law_made := co__law_made,
    at__law_named := ⟨_, _, _, _, _, _, _, _, rfl, l__law_named⟩,
    co__law_named := co__law_named,
    mg_BadMode := PySem.W.mg_of X G a_BadMode,
    ti_BadMode := ti_BadMode,
    mg_BadClause := PySem.W.mg_of X G a_BadClause,
    ti_BadClause := ti_BadClause,
    mg_BadName := PySem.W.mg_of X G a_BadName,
    ti_BadName := ti_BadName,
    mg_BadPath := PySem.W.mg_of X G a_BadPath,
    ti_BadPath := ti_BadPath,
    mg_BadUser := PySem.W.mg_of X G a_BadUser,
    ti_BadUser := ti_BadUser,
    mg_BadCommand := PySem.W.mg_of X G a_BadCommand,
    ti_BadCommand := ti_BadCommand,
    mg_BadKind := PySem.W.mg_of X G a_BadKind,
    ti_BadKind := ti_BadKind,
    mg_BadStand := PySem.W.mg_of X G a_BadStand,
    ti_BadStand := ti_BadStand,
    mg_BadBeat := PySem.W.mg_of X G a_BadBeat,
    ti_BadBeat := ti_BadBeat,
    mg_BadText := PySem.W.mg_of X G a_BadText,
    ti_BadText := ti_BadText,
    mg_NoEntry := PySem.W.mg_of X G a_NoEntry,
    ti_NoEntry := ti_NoEntry,
    mg_NoCommand := PySem.W.mg_of X G a_NoCommand,
    ti_NoCommand := ti_NoCommand,
    mg_NoStand := PySem.W.mg_of X G a_NoStand,
    ti_NoStand := ti_NoStand,
    mg_TooMany := PySem.W.mg_of X G a_TooMany,
    ti_TooMany := ti_TooMany,
    mg_NoKind := PySem.W.mg_of X G a_NoKind,
    ti_NoKind := ti_NoKind,
    mg_BadInput := PySem.W.mg_of X G a_BadInput,
    ti_BadInput := ti_BadInput,
    mg_NoWay := PySem.W.mg_of X G a_NoWay,
    ti_NoWay := ti_NoWay,
    mg_ModesError := PySem.W.mg_of X G a_ModesError,
    ti_ModesError := ti_ModesError,
    ci_BadInput := by rw [cix_BadInput]; rfl,
    ci_NoWay := by rw [cix_NoWay]; rfl,
    ci_ModesError := by rw [cix_ModesError]; rfl,
    npart_BadMode := npart_BadMode,
    ox_BadMode := ⟨⟨_, _, _, _, _, _, _, _, _, _, _, _, _, _, _, xl_BadMode, rf_BadMode⟩, sa_BadMode, ex_BadMode, ti_BadMode, kp_BadMode⟩,
    ec_BadMode := ⟨ga_BadMode, gg_BadMode, ex_BadMode, hd_BadMode, cc_BadMode, in0, it0, mo_BadMode⟩,
    ic_BadMode := in_BadMode,
    it_BadMode := tf_BadMode,
    fn_BadModeD_initD := fun_mk (st := s_BadModeD_initD) l_BadModeD_initD co_BadModeD_initD kp_BadModeD_initD,
    mr_BadMode := (mro_of xl_BadMode be_BadMode).1,
    ci_BadMode := (mro_of xl_BadMode be_BadMode).2,
    nat_BadClause := nat_BadClause,
    ox_BadClause := ⟨⟨_, _, _, _, _, _, _, _, _, _, _, _, _, _, _, xl_BadClause, rf_BadClause⟩, sa_BadClause, ex_BadClause, ti_BadClause, kp_BadClause⟩,
    ec_BadClause := ⟨ga_BadClause, gg_BadClause, ex_BadClause, hd_BadClause, cc_BadClause, in0, it0, mo_BadClause⟩,
    ic_BadClause := in_BadClause,
    it_BadClause := tf_BadClause,
    fn_BadClauseD_initD := fun_mk (st := s_BadClauseD_initD) l_BadClauseD_initD co_BadClauseD_initD kp_BadClauseD_initD,
    mr_BadClause := (mro_of xl_BadClause be_BadClause).1,
    ci_BadClause := (mro_of xl_BadClause be_BadClause).2,
    nname_BadName := nname_BadName,
    ox_BadName := ⟨⟨_, _, _, _, _, _, _, _, _, _, _, _, _, _, _, xl_BadName, rf_BadName⟩, sa_BadName, ex_BadName, ti_BadName, kp_BadName⟩,
    ec_BadName := ⟨ga_BadName, gg_BadName, ex_BadName, hd_BadName, cc_BadName, in0, it0, mo_BadName⟩,
    ic_BadName := in_BadName,
    it_BadName := tf_BadName,
    fn_BadNameD_initD := fun_mk (st := s_BadNameD_initD) l_BadNameD_initD co_BadNameD_initD kp_BadNameD_initD,
    mr_BadName := (mro_of xl_BadName be_BadName).1,
    ci_BadName := (mro_of xl_BadName be_BadName).2,
    npath_BadPath := npath_BadPath,
    ox_BadPath := ⟨⟨_, _, _, _, _, _, _, _, _, _, _, _, _, _, _, xl_BadPath, rf_BadPath⟩, sa_BadPath, ex_BadPath, ti_BadPath, kp_BadPath⟩,
    ec_BadPath := ⟨ga_BadPath, gg_BadPath, ex_BadPath, hd_BadPath, cc_BadPath, in0, it0, mo_BadPath⟩,
    ic_BadPath := in_BadPath,
    it_BadPath := tf_BadPath,
    fn_BadPathD_initD := fun_mk (st := s_BadPathD_initD) l_BadPathD_initD co_BadPathD_initD kp_BadPathD_initD,
    mr_BadPath := (mro_of xl_BadPath be_BadPath).1,
    ci_BadPath := (mro_of xl_BadPath be_BadPath).2,
    npart_BadUser := npart_BadUser,
    ox_BadUser := ⟨⟨_, _, _, _, _, _, _, _, _, _, _, _, _, _, _, xl_BadUser, rf_BadUser⟩, sa_BadUser, ex_BadUser, ti_BadUser, kp_BadUser⟩,
    ec_BadUser := ⟨ga_BadUser, gg_BadUser, ex_BadUser, hd_BadUser, cc_BadUser, in0, it0, mo_BadUser⟩,
    ic_BadUser := in_BadUser,
    it_BadUser := tf_BadUser,
    fn_BadUserD_initD := fun_mk (st := s_BadUserD_initD) l_BadUserD_initD co_BadUserD_initD kp_BadUserD_initD,
    mr_BadUser := (mro_of xl_BadUser be_BadUser).1,
    ci_BadUser := (mro_of xl_BadUser be_BadUser).2,
    npart_BadCommand := npart_BadCommand,
    ox_BadCommand := ⟨⟨_, _, _, _, _, _, _, _, _, _, _, _, _, _, _, xl_BadCommand, rf_BadCommand⟩, sa_BadCommand, ex_BadCommand, ti_BadCommand, kp_BadCommand⟩,
    ec_BadCommand := ⟨ga_BadCommand, gg_BadCommand, ex_BadCommand, hd_BadCommand, cc_BadCommand, in0, it0, mo_BadCommand⟩,
    ic_BadCommand := in_BadCommand,
    it_BadCommand := tf_BadCommand,
    fn_BadCommandD_initD := fun_mk (st := s_BadCommandD_initD) l_BadCommandD_initD co_BadCommandD_initD kp_BadCommandD_initD,
    mr_BadCommand := (mro_of xl_BadCommand be_BadCommand).1,
    ci_BadCommand := (mro_of xl_BadCommand be_BadCommand).2,
    nat_BadKind := nat_BadKind,
    ox_BadKind := ⟨⟨_, _, _, _, _, _, _, _, _, _, _, _, _, _, _, xl_BadKind, rf_BadKind⟩, sa_BadKind, ex_BadKind, ti_BadKind, kp_BadKind⟩,
    ec_BadKind := ⟨ga_BadKind, gg_BadKind, ex_BadKind, hd_BadKind, cc_BadKind, in0, it0, mo_BadKind⟩,
    ic_BadKind := in_BadKind,
    it_BadKind := tf_BadKind,
    fn_BadKindD_initD := fun_mk (st := s_BadKindD_initD) l_BadKindD_initD co_BadKindD_initD kp_BadKindD_initD,
    mr_BadKind := (mro_of xl_BadKind be_BadKind).1,
    ci_BadKind := (mro_of xl_BadKind be_BadKind).2,
    nindex_BadStand := nindex_BadStand,
    ox_BadStand := ⟨⟨_, _, _, _, _, _, _, _, _, _, _, _, _, _, _, xl_BadStand, rf_BadStand⟩, sa_BadStand, ex_BadStand, ti_BadStand, kp_BadStand⟩,
    ec_BadStand := ⟨ga_BadStand, gg_BadStand, ex_BadStand, hd_BadStand, cc_BadStand, in0, it0, mo_BadStand⟩,
    ic_BadStand := in_BadStand,
    it_BadStand := tf_BadStand,
    fn_BadStandD_initD := fun_mk (st := s_BadStandD_initD) l_BadStandD_initD co_BadStandD_initD kp_BadStandD_initD,
    mr_BadStand := (mro_of xl_BadStand be_BadStand).1,
    ci_BadStand := (mro_of xl_BadStand be_BadStand).2,
    npart_BadBeat := npart_BadBeat,
    ox_BadBeat := ⟨⟨_, _, _, _, _, _, _, _, _, _, _, _, _, _, _, xl_BadBeat, rf_BadBeat⟩, sa_BadBeat, ex_BadBeat, ti_BadBeat, kp_BadBeat⟩,
    ec_BadBeat := ⟨ga_BadBeat, gg_BadBeat, ex_BadBeat, hd_BadBeat, cc_BadBeat, in0, it0, mo_BadBeat⟩,
    ic_BadBeat := in_BadBeat,
    it_BadBeat := tf_BadBeat,
    fn_BadBeatD_initD := fun_mk (st := s_BadBeatD_initD) l_BadBeatD_initD co_BadBeatD_initD kp_BadBeatD_initD,
    mr_BadBeat := (mro_of xl_BadBeat be_BadBeat).1,
    ci_BadBeat := (mro_of xl_BadBeat be_BadBeat).2,
    nline_BadText := nline_BadText,
    nword_BadText := nword_BadText,
    ox_BadText := ⟨⟨_, _, _, _, _, _, _, _, _, _, _, _, _, _, _, xl_BadText, rf_BadText⟩, sa_BadText, ex_BadText, ti_BadText, kp_BadText⟩,
    ec_BadText := ⟨ga_BadText, gg_BadText, ex_BadText, hd_BadText, cc_BadText, in0, it0, mo_BadText⟩,
    ic_BadText := in_BadText,
    it_BadText := tf_BadText,
    fn_BadTextD_initD := fun_mk (st := s_BadTextD_initD) l_BadTextD_initD co_BadTextD_initD kp_BadTextD_initD,
    mr_BadText := (mro_of xl_BadText be_BadText).1,
    ci_BadText := (mro_of xl_BadText be_BadText).2,
    npath_NoEntry := npath_NoEntry,
    ox_NoEntry := ⟨⟨_, _, _, _, _, _, _, _, _, _, _, _, _, _, _, xl_NoEntry, rf_NoEntry⟩, sa_NoEntry, ex_NoEntry, ti_NoEntry, kp_NoEntry⟩,
    ec_NoEntry := ⟨ga_NoEntry, gg_NoEntry, ex_NoEntry, hd_NoEntry, cc_NoEntry, in0, it0, mo_NoEntry⟩,
    ic_NoEntry := in_NoEntry,
    it_NoEntry := tf_NoEntry,
    fn_NoEntryD_initD := fun_mk (st := s_NoEntryD_initD) l_NoEntryD_initD co_NoEntryD_initD kp_NoEntryD_initD,
    mr_NoEntry := (mro_of xl_NoEntry be_NoEntry).1,
    ci_NoEntry := (mro_of xl_NoEntry be_NoEntry).2,
    nindex_NoCommand := nindex_NoCommand,
    ox_NoCommand := ⟨⟨_, _, _, _, _, _, _, _, _, _, _, _, _, _, _, xl_NoCommand, rf_NoCommand⟩, sa_NoCommand, ex_NoCommand, ti_NoCommand, kp_NoCommand⟩,
    ec_NoCommand := ⟨ga_NoCommand, gg_NoCommand, ex_NoCommand, hd_NoCommand, cc_NoCommand, in0, it0, mo_NoCommand⟩,
    ic_NoCommand := in_NoCommand,
    it_NoCommand := tf_NoCommand,
    fn_NoCommandD_initD := fun_mk (st := s_NoCommandD_initD) l_NoCommandD_initD co_NoCommandD_initD kp_NoCommandD_initD,
    mr_NoCommand := (mro_of xl_NoCommand be_NoCommand).1,
    ci_NoCommand := (mro_of xl_NoCommand be_NoCommand).2,
    njoint_NoStand := njoint_NoStand,
    ox_NoStand := ⟨⟨_, _, _, _, _, _, _, _, _, _, _, _, _, _, _, xl_NoStand, rf_NoStand⟩, sa_NoStand, ex_NoStand, ti_NoStand, kp_NoStand⟩,
    ec_NoStand := ⟨ga_NoStand, gg_NoStand, ex_NoStand, hd_NoStand, cc_NoStand, in0, it0, mo_NoStand⟩,
    ic_NoStand := in_NoStand,
    it_NoStand := tf_NoStand,
    fn_NoStandD_initD := fun_mk (st := s_NoStandD_initD) l_NoStandD_initD co_NoStandD_initD kp_NoStandD_initD,
    mr_NoStand := (mro_of xl_NoStand be_NoStand).1,
    ci_NoStand := (mro_of xl_NoStand be_NoStand).2,
    nmost_TooMany := nmost_TooMany,
    ox_TooMany := ⟨⟨_, _, _, _, _, _, _, _, _, _, _, _, _, _, _, xl_TooMany, rf_TooMany⟩, sa_TooMany, ex_TooMany, ti_TooMany, kp_TooMany⟩,
    ec_TooMany := ⟨ga_TooMany, gg_TooMany, ex_TooMany, hd_TooMany, cc_TooMany, in0, it0, mo_TooMany⟩,
    ic_TooMany := in_TooMany,
    it_TooMany := tf_TooMany,
    fn_TooManyD_initD := fun_mk (st := s_TooManyD_initD) l_TooManyD_initD co_TooManyD_initD kp_TooManyD_initD,
    mr_TooMany := (mro_of xl_TooMany be_TooMany).1,
    ci_TooMany := (mro_of xl_TooMany be_TooMany).2,
    ox_NoKind := ⟨⟨_, _, _, _, _, _, _, _, _, _, _, _, _, _, _, xl_NoKind, rf_NoKind⟩, sa_NoKind, ex_NoKind, ti_NoKind, kp_NoKind⟩,
    ec_NoKind := ⟨ga_NoKind, gg_NoKind, ex_NoKind, hd_NoKind, cc_NoKind, in0, it0, mo_NoKind⟩,
    ic_NoKind := in_NoKind,
    it_NoKind := tf_NoKind,
    fn_NoKindD_initD := fun_mk (st := s_NoKindD_initD) l_NoKindD_initD co_NoKindD_initD kp_NoKindD_initD,
    mr_NoKind := (mro_of xl_NoKind be_NoKind).1,
    ci_NoKind := (mro_of xl_NoKind be_NoKind).2,
    ne_P := ne_P,
    nd := nd
  }
  refine ⟨PySem.W.fnOf "law" "law" (defArgs s_law) (defBody s_law) (defScope s_law) .none kV_law dc_law pm_law an_law cd_law ct_law, [(cM, PM), (cN, PN)], spLaw K { f__law_bag := f__law_bag, d__law_bag := PySem.W.fnOf "_law_bag" "_law_bag" (defArgs s__law_bag) (defBody s__law_bag) (defScope s__law_bag) .none kV__law_bag dc__law_bag pm__law_bag an__law_bag cd__law_bag ct__law_bag, f__law_draw := f__law_draw, d__law_draw := PySem.W.fnOf "_law_draw" "_law_draw" (defArgs s__law_draw) (defBody s__law_draw) (defScope s__law_draw) .none kV__law_draw dc__law_draw pm__law_draw an__law_draw cd__law_draw ct__law_draw, f__law_field := f__law_field, d__law_field := PySem.W.fnOf "_law_field" "_law_field" (defArgs s__law_field) (defBody s__law_field) (defScope s__law_field) .none kV__law_field dc__law_field pm__law_field an__law_field cd__law_field ct__law_field, f__law_made := f__law_made, d__law_made := PySem.W.fnOf "_law_made" "_law_made" (defArgs s__law_made) (defBody s__law_made) (defScope s__law_made) .none kV__law_made dc__law_made pm__law_made an__law_made (.ref cM) ct__law_made, f__law_named := f__law_named, d__law_named := PySem.W.fnOf "_law_named" "_law_named" (defArgs s__law_named) (defBody s__law_named) (defScope s__law_named) .none kV__law_named dc__law_named pm__law_named an__law_named (.ref cN) ct__law_named, f__law_fields := f__law_fields, d__law_fields := PySem.W.fnOf "_law_fields" "_law_fields" (defArgs s__law_fields) (defBody s__law_fields) (defScope s__law_fields) .none kV__law_fields dc__law_fields pm__law_fields an__law_fields cd__law_fields ct__law_fields, f__law_classes := f__law_classes, d__law_classes := PySem.W.fnOf "_law_classes" "_law_classes" (defArgs s__law_classes) (defBody s__law_classes) (defScope s__law_classes) .none kV__law_classes dc__law_classes pm__law_classes an__law_classes cd__law_classes ct__law_classes, x_BadMode := x_BadMode, x_BadClause := x_BadClause, x_BadName := x_BadName, x_BadPath := x_BadPath, x_BadUser := x_BadUser, x_BadCommand := x_BadCommand, x_BadKind := x_BadKind, x_BadStand := x_BadStand, x_BadBeat := x_BadBeat, x_BadText := x_BadText, x_NoEntry := x_NoEntry, x_NoCommand := x_NoCommand, x_NoStand := x_NoStand, x_TooMany := x_TooMany, x_NoKind := x_NoKind, x_BadInput := x_BadInput, x_NoWay := x_NoWay, x_ModesError := x_ModesError, f_BadModeD_initD := f_BadModeD_initD, d_BadModeD_initD := PySem.W.fnOf "__init__" "BadMode.__init__" (defArgs s_BadModeD_initD) (defBody s_BadModeD_initD) (defScope s_BadModeD_initD) .none kV_BadModeD_initD dc_BadModeD_initD pm_BadModeD_initD an_BadModeD_initD cd_BadModeD_initD ct_BadModeD_initD, f_BadClauseD_initD := f_BadClauseD_initD, d_BadClauseD_initD := PySem.W.fnOf "__init__" "BadClause.__init__" (defArgs s_BadClauseD_initD) (defBody s_BadClauseD_initD) (defScope s_BadClauseD_initD) .none kV_BadClauseD_initD dc_BadClauseD_initD pm_BadClauseD_initD an_BadClauseD_initD cd_BadClauseD_initD ct_BadClauseD_initD, f_BadNameD_initD := f_BadNameD_initD, d_BadNameD_initD := PySem.W.fnOf "__init__" "BadName.__init__" (defArgs s_BadNameD_initD) (defBody s_BadNameD_initD) (defScope s_BadNameD_initD) .none kV_BadNameD_initD dc_BadNameD_initD pm_BadNameD_initD an_BadNameD_initD cd_BadNameD_initD ct_BadNameD_initD, f_BadPathD_initD := f_BadPathD_initD, d_BadPathD_initD := PySem.W.fnOf "__init__" "BadPath.__init__" (defArgs s_BadPathD_initD) (defBody s_BadPathD_initD) (defScope s_BadPathD_initD) .none kV_BadPathD_initD dc_BadPathD_initD pm_BadPathD_initD an_BadPathD_initD cd_BadPathD_initD ct_BadPathD_initD, f_BadUserD_initD := f_BadUserD_initD, d_BadUserD_initD := PySem.W.fnOf "__init__" "BadUser.__init__" (defArgs s_BadUserD_initD) (defBody s_BadUserD_initD) (defScope s_BadUserD_initD) .none kV_BadUserD_initD dc_BadUserD_initD pm_BadUserD_initD an_BadUserD_initD cd_BadUserD_initD ct_BadUserD_initD, f_BadCommandD_initD := f_BadCommandD_initD, d_BadCommandD_initD := PySem.W.fnOf "__init__" "BadCommand.__init__" (defArgs s_BadCommandD_initD) (defBody s_BadCommandD_initD) (defScope s_BadCommandD_initD) .none kV_BadCommandD_initD dc_BadCommandD_initD pm_BadCommandD_initD an_BadCommandD_initD cd_BadCommandD_initD ct_BadCommandD_initD, f_BadKindD_initD := f_BadKindD_initD, d_BadKindD_initD := PySem.W.fnOf "__init__" "BadKind.__init__" (defArgs s_BadKindD_initD) (defBody s_BadKindD_initD) (defScope s_BadKindD_initD) .none kV_BadKindD_initD dc_BadKindD_initD pm_BadKindD_initD an_BadKindD_initD cd_BadKindD_initD ct_BadKindD_initD, f_BadStandD_initD := f_BadStandD_initD, d_BadStandD_initD := PySem.W.fnOf "__init__" "BadStand.__init__" (defArgs s_BadStandD_initD) (defBody s_BadStandD_initD) (defScope s_BadStandD_initD) .none kV_BadStandD_initD dc_BadStandD_initD pm_BadStandD_initD an_BadStandD_initD cd_BadStandD_initD ct_BadStandD_initD, f_BadBeatD_initD := f_BadBeatD_initD, d_BadBeatD_initD := PySem.W.fnOf "__init__" "BadBeat.__init__" (defArgs s_BadBeatD_initD) (defBody s_BadBeatD_initD) (defScope s_BadBeatD_initD) .none kV_BadBeatD_initD dc_BadBeatD_initD pm_BadBeatD_initD an_BadBeatD_initD cd_BadBeatD_initD ct_BadBeatD_initD, f_BadTextD_initD := f_BadTextD_initD, d_BadTextD_initD := PySem.W.fnOf "__init__" "BadText.__init__" (defArgs s_BadTextD_initD) (defBody s_BadTextD_initD) (defScope s_BadTextD_initD) .none kV_BadTextD_initD dc_BadTextD_initD pm_BadTextD_initD an_BadTextD_initD cd_BadTextD_initD ct_BadTextD_initD, f_NoEntryD_initD := f_NoEntryD_initD, d_NoEntryD_initD := PySem.W.fnOf "__init__" "NoEntry.__init__" (defArgs s_NoEntryD_initD) (defBody s_NoEntryD_initD) (defScope s_NoEntryD_initD) .none kV_NoEntryD_initD dc_NoEntryD_initD pm_NoEntryD_initD an_NoEntryD_initD cd_NoEntryD_initD ct_NoEntryD_initD, f_NoCommandD_initD := f_NoCommandD_initD, d_NoCommandD_initD := PySem.W.fnOf "__init__" "NoCommand.__init__" (defArgs s_NoCommandD_initD) (defBody s_NoCommandD_initD) (defScope s_NoCommandD_initD) .none kV_NoCommandD_initD dc_NoCommandD_initD pm_NoCommandD_initD an_NoCommandD_initD cd_NoCommandD_initD ct_NoCommandD_initD, f_NoStandD_initD := f_NoStandD_initD, d_NoStandD_initD := PySem.W.fnOf "__init__" "NoStand.__init__" (defArgs s_NoStandD_initD) (defBody s_NoStandD_initD) (defScope s_NoStandD_initD) .none kV_NoStandD_initD dc_NoStandD_initD pm_NoStandD_initD an_NoStandD_initD cd_NoStandD_initD ct_NoStandD_initD, f_TooManyD_initD := f_TooManyD_initD, d_TooManyD_initD := PySem.W.fnOf "__init__" "TooMany.__init__" (defArgs s_TooManyD_initD) (defBody s_TooManyD_initD) (defScope s_TooManyD_initD) .none kV_TooManyD_initD dc_TooManyD_initD pm_TooManyD_initD an_TooManyD_initD cd_TooManyD_initD ct_TooManyD_initD, f_NoKindD_initD := f_NoKindD_initD, d_NoKindD_initD := PySem.W.fnOf "__init__" "NoKind.__init__" (defArgs s_NoKindD_initD) (defBody s_NoKindD_initD) (defScope s_NoKindD_initD) .none kV_NoKindD_initD dc_NoKindD_initD pm_NoKindD_initD an_NoKindD_initD cd_NoKindD_initD ct_NoKindD_initD, cM := cM, PM := PM, cN := cN, PN := PN }, fun p hp => ?_, fun p hp => ?_, fun p hp => ?_, fun s v => .of_eq rfl, fun H b ns hl hT hS => ⟨b, ns, rfl, hS, hl, hT (cM, PM) (List.mem_cons_self ..), hT (cN, PN) (List.mem_cons_of_mem _ (List.mem_singleton.mpr rfl)), fun _ => rfl⟩, fun base _ _ TB => (ok_law T (TB (cM, PM) (List.mem_cons_self ..)) (TB (cN, PN) (List.mem_cons_of_mem _ (List.mem_singleton.mpr rfl))) l_law co_law).run callerA rfl ⟨rfl, by decide, by decide⟩⟩
  · rcases List.mem_cons.mp hp with rfl | hp
    · exact tb_PM
    · rw [List.mem_singleton.mp hp]; exact tb_PN
  · rcases List.mem_cons.mp hp with rfl | hp
    · exact kl_PM
    · rw [List.mem_singleton.mp hp]; exact kl_PN
  · rcases List.mem_cons.mp hp with rfl | hp
    · exact ch_PM
    · rw [List.mem_singleton.mp hp]; exact ch_PN
end KO
open PySem PySem.W PyProof.Rows
set_option maxRecDepth 100000 in
set_option maxHeartbeats 0 in
theorem PySem.Challenge.cw_modesdown_k05_errors_holds : PySem.Challenge.rw_modesdown_k05_errors.Holds := by
  w_on; o_law; k_head; (case hw => w_witness2)
  k_fill
  refine KD.walk_tabs (x := "_law_script") rfl rfl (fun w h Y => PySem.W.km_in_of Y) ?F
  case F =>
    intro w mg fa h Y kIn G hmg
    refine' KO.all_mk kIn G hmg ?z_isinstance ?z_int ?z_list ?z_len ?z_abs ?z_range ?z_repr ?z_ValueError ?a__law_bag ?l__law_bag ?co__law_bag ?kp__law_bag ?a__law_draw ?l__law_draw ?co__law_draw ?kp__law_draw ?a__law_field ?l__law_field ?co__law_field ?kp__law_field ?a__law_made ?l__law_made ?co__law_made ?kp__law_made ?a__law_named ?l__law_named ?co__law_named ?kp__law_named ?a__law_fields ?l__law_fields ?co__law_fields ?kp__law_fields ?a__law_classes ?l__law_classes ?co__law_classes ?kp__law_classes ?a_BadMode ?ti_BadMode ?a_BadClause ?ti_BadClause ?a_BadName ?ti_BadName ?a_BadPath ?ti_BadPath ?a_BadUser ?ti_BadUser ?a_BadCommand ?ti_BadCommand ?a_BadKind ?ti_BadKind ?a_BadStand ?ti_BadStand ?a_BadBeat ?ti_BadBeat ?a_BadText ?ti_BadText ?a_NoEntry ?ti_NoEntry ?a_NoCommand ?ti_NoCommand ?a_NoStand ?ti_NoStand ?a_TooMany ?ti_TooMany ?a_NoKind ?ti_NoKind ?a_BadInput ?ti_BadInput ?a_NoWay ?ti_NoWay ?a_ModesError ?ti_ModesError ?cix_BadInput ?cix_NoWay ?cix_ModesError ?xl_BadMode ?be_BadMode ?rf_BadMode ?sa_BadMode ?ex_BadMode ?kp_BadMode ?ga_BadMode ?gg_BadMode ?hd_BadMode ?cc_BadMode ?mo_BadMode ?npart_BadMode ?in_BadMode ?tf_BadMode ?l_BadModeD_initD ?co_BadModeD_initD ?kp_BadModeD_initD ?xl_BadClause ?be_BadClause ?rf_BadClause ?sa_BadClause ?ex_BadClause ?kp_BadClause ?ga_BadClause ?gg_BadClause ?hd_BadClause ?cc_BadClause ?mo_BadClause ?nat_BadClause ?in_BadClause ?tf_BadClause ?l_BadClauseD_initD ?co_BadClauseD_initD ?kp_BadClauseD_initD ?xl_BadName ?be_BadName ?rf_BadName ?sa_BadName ?ex_BadName ?kp_BadName ?ga_BadName ?gg_BadName ?hd_BadName ?cc_BadName ?mo_BadName ?nname_BadName ?in_BadName ?tf_BadName ?l_BadNameD_initD ?co_BadNameD_initD ?kp_BadNameD_initD ?xl_BadPath ?be_BadPath ?rf_BadPath ?sa_BadPath ?ex_BadPath ?kp_BadPath ?ga_BadPath ?gg_BadPath ?hd_BadPath ?cc_BadPath ?mo_BadPath ?npath_BadPath ?in_BadPath ?tf_BadPath ?l_BadPathD_initD ?co_BadPathD_initD ?kp_BadPathD_initD ?xl_BadUser ?be_BadUser ?rf_BadUser ?sa_BadUser ?ex_BadUser ?kp_BadUser ?ga_BadUser ?gg_BadUser ?hd_BadUser ?cc_BadUser ?mo_BadUser ?npart_BadUser ?in_BadUser ?tf_BadUser ?l_BadUserD_initD ?co_BadUserD_initD ?kp_BadUserD_initD ?xl_BadCommand ?be_BadCommand ?rf_BadCommand ?sa_BadCommand ?ex_BadCommand ?kp_BadCommand ?ga_BadCommand ?gg_BadCommand ?hd_BadCommand ?cc_BadCommand ?mo_BadCommand ?npart_BadCommand ?in_BadCommand ?tf_BadCommand ?l_BadCommandD_initD ?co_BadCommandD_initD ?kp_BadCommandD_initD ?xl_BadKind ?be_BadKind ?rf_BadKind ?sa_BadKind ?ex_BadKind ?kp_BadKind ?ga_BadKind ?gg_BadKind ?hd_BadKind ?cc_BadKind ?mo_BadKind ?nat_BadKind ?in_BadKind ?tf_BadKind ?l_BadKindD_initD ?co_BadKindD_initD ?kp_BadKindD_initD ?xl_BadStand ?be_BadStand ?rf_BadStand ?sa_BadStand ?ex_BadStand ?kp_BadStand ?ga_BadStand ?gg_BadStand ?hd_BadStand ?cc_BadStand ?mo_BadStand ?nindex_BadStand ?in_BadStand ?tf_BadStand ?l_BadStandD_initD ?co_BadStandD_initD ?kp_BadStandD_initD ?xl_BadBeat ?be_BadBeat ?rf_BadBeat ?sa_BadBeat ?ex_BadBeat ?kp_BadBeat ?ga_BadBeat ?gg_BadBeat ?hd_BadBeat ?cc_BadBeat ?mo_BadBeat ?npart_BadBeat ?in_BadBeat ?tf_BadBeat ?l_BadBeatD_initD ?co_BadBeatD_initD ?kp_BadBeatD_initD ?xl_BadText ?be_BadText ?rf_BadText ?sa_BadText ?ex_BadText ?kp_BadText ?ga_BadText ?gg_BadText ?hd_BadText ?cc_BadText ?mo_BadText ?nline_BadText ?nword_BadText ?in_BadText ?tf_BadText ?l_BadTextD_initD ?co_BadTextD_initD ?kp_BadTextD_initD ?xl_NoEntry ?be_NoEntry ?rf_NoEntry ?sa_NoEntry ?ex_NoEntry ?kp_NoEntry ?ga_NoEntry ?gg_NoEntry ?hd_NoEntry ?cc_NoEntry ?mo_NoEntry ?npath_NoEntry ?in_NoEntry ?tf_NoEntry ?l_NoEntryD_initD ?co_NoEntryD_initD ?kp_NoEntryD_initD ?xl_NoCommand ?be_NoCommand ?rf_NoCommand ?sa_NoCommand ?ex_NoCommand ?kp_NoCommand ?ga_NoCommand ?gg_NoCommand ?hd_NoCommand ?cc_NoCommand ?mo_NoCommand ?nindex_NoCommand ?in_NoCommand ?tf_NoCommand ?l_NoCommandD_initD ?co_NoCommandD_initD ?kp_NoCommandD_initD ?xl_NoStand ?be_NoStand ?rf_NoStand ?sa_NoStand ?ex_NoStand ?kp_NoStand ?ga_NoStand ?gg_NoStand ?hd_NoStand ?cc_NoStand ?mo_NoStand ?njoint_NoStand ?in_NoStand ?tf_NoStand ?l_NoStandD_initD ?co_NoStandD_initD ?kp_NoStandD_initD ?xl_TooMany ?be_TooMany ?rf_TooMany ?sa_TooMany ?ex_TooMany ?kp_TooMany ?ga_TooMany ?gg_TooMany ?hd_TooMany ?cc_TooMany ?mo_TooMany ?nmost_TooMany ?in_TooMany ?tf_TooMany ?l_TooManyD_initD ?co_TooManyD_initD ?kp_TooManyD_initD ?xl_NoKind ?be_NoKind ?rf_NoKind ?sa_NoKind ?ex_NoKind ?kp_NoKind ?ga_NoKind ?gg_NoKind ?hd_NoKind ?cc_NoKind ?mo_NoKind ?in_NoKind ?tf_NoKind ?l_NoKindD_initD ?co_NoKindD_initD ?kp_NoKindD_initD ?in0 ?it0 ?a_law ?l_law ?co_law ?kp_law ?lc_PM ?v11_PM ?ch_PM ?kl_PM ?tb_PM ?lc_PN ?v11_PN ?ch_PN ?kl_PN ?tb_PN ?ne_P ?nd
    (case z_isinstance => k_is)
    (case z_int => k_is)
    (case z_list => k_is)
    (case z_len => k_is)
    (case z_abs => k_is)
    (case z_range => k_is)
    (case z_repr => k_is)
    (case z_ValueError => k_is)
    (case a__law_bag => k_is)
    (case l__law_bag => k_is)
    (case co__law_bag => k_is)
    (case kp__law_bag => k_is)
    (case a__law_draw => k_is)
    (case l__law_draw => k_is)
    (case co__law_draw => k_is)
    (case kp__law_draw => k_is)
    (case a__law_field => k_is)
    (case l__law_field => k_is)
    (case co__law_field => k_is)
    (case kp__law_field => k_is)
    (case a__law_made => k_is)
    (case l__law_made => k_is)
    (case co__law_made => k_is)
    (case kp__law_made => k_is)
    (case a__law_named => k_is)
    (case l__law_named => k_is)
    (case co__law_named => k_is)
    (case kp__law_named => k_is)
    (case a__law_fields => k_is)
    (case l__law_fields => k_is)
    (case co__law_fields => k_is)
    (case kp__law_fields => k_is)
    (case a__law_classes => k_is)
    (case l__law_classes => k_is)
    (case co__law_classes => k_is)
    (case kp__law_classes => k_is)
    (case a_BadMode => k_is)
    (case ti_BadMode => k_is)
    (case a_BadClause => k_is)
    (case ti_BadClause => k_is)
    (case a_BadName => k_is)
    (case ti_BadName => k_is)
    (case a_BadPath => k_is)
    (case ti_BadPath => k_is)
    (case a_BadUser => k_is)
    (case ti_BadUser => k_is)
    (case a_BadCommand => k_is)
    (case ti_BadCommand => k_is)
    (case a_BadKind => k_is)
    (case ti_BadKind => k_is)
    (case a_BadStand => k_is)
    (case ti_BadStand => k_is)
    (case a_BadBeat => k_is)
    (case ti_BadBeat => k_is)
    (case a_BadText => k_is)
    (case ti_BadText => k_is)
    (case a_NoEntry => k_is)
    (case ti_NoEntry => k_is)
    (case a_NoCommand => k_is)
    (case ti_NoCommand => k_is)
    (case a_NoStand => k_is)
    (case ti_NoStand => k_is)
    (case a_TooMany => k_is)
    (case ti_TooMany => k_is)
    (case a_NoKind => k_is)
    (case ti_NoKind => k_is)
    (case a_BadInput => k_is)
    (case ti_BadInput => k_is)
    (case a_NoWay => k_is)
    (case ti_NoWay => k_is)
    (case a_ModesError => k_is)
    (case ti_ModesError => k_is)
    (case cix_BadInput => k_is)
    (case cix_NoWay => k_is)
    (case cix_ModesError => k_is)
    (case xl_BadMode => k_is)
    (case be_BadMode => rfl)
    (case rf_BadMode => decide +kernel)
    (case sa_BadMode => k_is)
    (case ex_BadMode => k_is)
    (case kp_BadMode => k_is)
    (case ga_BadMode => k_is)
    (case gg_BadMode => k_is)
    (case hd_BadMode => k_is)
    (case cc_BadMode => k_is)
    (case mo_BadMode => k_is)
    (case npart_BadMode => k_is)
    (case in_BadMode => k_is)
    (case tf_BadMode => k_is)
    (case l_BadModeD_initD => k_is)
    (case co_BadModeD_initD => k_is)
    (case kp_BadModeD_initD => k_is)
    (case xl_BadClause => k_is)
    (case be_BadClause => rfl)
    (case rf_BadClause => decide +kernel)
    (case sa_BadClause => k_is)
    (case ex_BadClause => k_is)
    (case kp_BadClause => k_is)
    (case ga_BadClause => k_is)
    (case gg_BadClause => k_is)
    (case hd_BadClause => k_is)
    (case cc_BadClause => k_is)
    (case mo_BadClause => k_is)
    (case nat_BadClause => k_is)
    (case in_BadClause => k_is)
    (case tf_BadClause => k_is)
    (case l_BadClauseD_initD => k_is)
    (case co_BadClauseD_initD => k_is)
    (case kp_BadClauseD_initD => k_is)
    (case xl_BadName => k_is)
    (case be_BadName => rfl)
    (case rf_BadName => decide +kernel)
    (case sa_BadName => k_is)
    (case ex_BadName => k_is)
    (case kp_BadName => k_is)
    (case ga_BadName => k_is)
    (case gg_BadName => k_is)
    (case hd_BadName => k_is)
    (case cc_BadName => k_is)
    (case mo_BadName => k_is)
    (case nname_BadName => k_is)
    (case in_BadName => k_is)
    (case tf_BadName => k_is)
    (case l_BadNameD_initD => k_is)
    (case co_BadNameD_initD => k_is)
    (case kp_BadNameD_initD => k_is)
    (case xl_BadPath => k_is)
    (case be_BadPath => rfl)
    (case rf_BadPath => decide +kernel)
    (case sa_BadPath => k_is)
    (case ex_BadPath => k_is)
    (case kp_BadPath => k_is)
    (case ga_BadPath => k_is)
    (case gg_BadPath => k_is)
    (case hd_BadPath => k_is)
    (case cc_BadPath => k_is)
    (case mo_BadPath => k_is)
    (case npath_BadPath => k_is)
    (case in_BadPath => k_is)
    (case tf_BadPath => k_is)
    (case l_BadPathD_initD => k_is)
    (case co_BadPathD_initD => k_is)
    (case kp_BadPathD_initD => k_is)
    (case xl_BadUser => k_is)
    (case be_BadUser => rfl)
    (case rf_BadUser => decide +kernel)
    (case sa_BadUser => k_is)
    (case ex_BadUser => k_is)
    (case kp_BadUser => k_is)
    (case ga_BadUser => k_is)
    (case gg_BadUser => k_is)
    (case hd_BadUser => k_is)
    (case cc_BadUser => k_is)
    (case mo_BadUser => k_is)
    (case npart_BadUser => k_is)
    (case in_BadUser => k_is)
    (case tf_BadUser => k_is)
    (case l_BadUserD_initD => k_is)
    (case co_BadUserD_initD => k_is)
    (case kp_BadUserD_initD => k_is)
    (case xl_BadCommand => k_is)
    (case be_BadCommand => rfl)
    (case rf_BadCommand => decide +kernel)
    (case sa_BadCommand => k_is)
    (case ex_BadCommand => k_is)
    (case kp_BadCommand => k_is)
    (case ga_BadCommand => k_is)
    (case gg_BadCommand => k_is)
    (case hd_BadCommand => k_is)
    (case cc_BadCommand => k_is)
    (case mo_BadCommand => k_is)
    (case npart_BadCommand => k_is)
    (case in_BadCommand => k_is)
    (case tf_BadCommand => k_is)
    (case l_BadCommandD_initD => k_is)
    (case co_BadCommandD_initD => k_is)
    (case kp_BadCommandD_initD => k_is)
    (case xl_BadKind => k_is)
    (case be_BadKind => rfl)
    (case rf_BadKind => decide +kernel)
    (case sa_BadKind => k_is)
    (case ex_BadKind => k_is)
    (case kp_BadKind => k_is)
    (case ga_BadKind => k_is)
    (case gg_BadKind => k_is)
    (case hd_BadKind => k_is)
    (case cc_BadKind => k_is)
    (case mo_BadKind => k_is)
    (case nat_BadKind => k_is)
    (case in_BadKind => k_is)
    (case tf_BadKind => k_is)
    (case l_BadKindD_initD => k_is)
    (case co_BadKindD_initD => k_is)
    (case kp_BadKindD_initD => k_is)
    (case xl_BadStand => k_is)
    (case be_BadStand => rfl)
    (case rf_BadStand => decide +kernel)
    (case sa_BadStand => k_is)
    (case ex_BadStand => k_is)
    (case kp_BadStand => k_is)
    (case ga_BadStand => k_is)
    (case gg_BadStand => k_is)
    (case hd_BadStand => k_is)
    (case cc_BadStand => k_is)
    (case mo_BadStand => k_is)
    (case nindex_BadStand => k_is)
    (case in_BadStand => k_is)
    (case tf_BadStand => k_is)
    (case l_BadStandD_initD => k_is)
    (case co_BadStandD_initD => k_is)
    (case kp_BadStandD_initD => k_is)
    (case xl_BadBeat => k_is)
    (case be_BadBeat => rfl)
    (case rf_BadBeat => decide +kernel)
    (case sa_BadBeat => k_is)
    (case ex_BadBeat => k_is)
    (case kp_BadBeat => k_is)
    (case ga_BadBeat => k_is)
    (case gg_BadBeat => k_is)
    (case hd_BadBeat => k_is)
    (case cc_BadBeat => k_is)
    (case mo_BadBeat => k_is)
    (case npart_BadBeat => k_is)
    (case in_BadBeat => k_is)
    (case tf_BadBeat => k_is)
    (case l_BadBeatD_initD => k_is)
    (case co_BadBeatD_initD => k_is)
    (case kp_BadBeatD_initD => k_is)
    (case xl_BadText => k_is)
    (case be_BadText => rfl)
    (case rf_BadText => decide +kernel)
    (case sa_BadText => k_is)
    (case ex_BadText => k_is)
    (case kp_BadText => k_is)
    (case ga_BadText => k_is)
    (case gg_BadText => k_is)
    (case hd_BadText => k_is)
    (case cc_BadText => k_is)
    (case mo_BadText => k_is)
    (case nline_BadText => k_is)
    (case nword_BadText => k_is)
    (case in_BadText => k_is)
    (case tf_BadText => k_is)
    (case l_BadTextD_initD => k_is)
    (case co_BadTextD_initD => k_is)
    (case kp_BadTextD_initD => k_is)
    (case xl_NoEntry => k_is)
    (case be_NoEntry => rfl)
    (case rf_NoEntry => decide +kernel)
    (case sa_NoEntry => k_is)
    (case ex_NoEntry => k_is)
    (case kp_NoEntry => k_is)
    (case ga_NoEntry => k_is)
    (case gg_NoEntry => k_is)
    (case hd_NoEntry => k_is)
    (case cc_NoEntry => k_is)
    (case mo_NoEntry => k_is)
    (case npath_NoEntry => k_is)
    (case in_NoEntry => k_is)
    (case tf_NoEntry => k_is)
    (case l_NoEntryD_initD => k_is)
    (case co_NoEntryD_initD => k_is)
    (case kp_NoEntryD_initD => k_is)
    (case xl_NoCommand => k_is)
    (case be_NoCommand => rfl)
    (case rf_NoCommand => decide +kernel)
    (case sa_NoCommand => k_is)
    (case ex_NoCommand => k_is)
    (case kp_NoCommand => k_is)
    (case ga_NoCommand => k_is)
    (case gg_NoCommand => k_is)
    (case hd_NoCommand => k_is)
    (case cc_NoCommand => k_is)
    (case mo_NoCommand => k_is)
    (case nindex_NoCommand => k_is)
    (case in_NoCommand => k_is)
    (case tf_NoCommand => k_is)
    (case l_NoCommandD_initD => k_is)
    (case co_NoCommandD_initD => k_is)
    (case kp_NoCommandD_initD => k_is)
    (case xl_NoStand => k_is)
    (case be_NoStand => rfl)
    (case rf_NoStand => decide +kernel)
    (case sa_NoStand => k_is)
    (case ex_NoStand => k_is)
    (case kp_NoStand => k_is)
    (case ga_NoStand => k_is)
    (case gg_NoStand => k_is)
    (case hd_NoStand => k_is)
    (case cc_NoStand => k_is)
    (case mo_NoStand => k_is)
    (case njoint_NoStand => k_is)
    (case in_NoStand => k_is)
    (case tf_NoStand => k_is)
    (case l_NoStandD_initD => k_is)
    (case co_NoStandD_initD => k_is)
    (case kp_NoStandD_initD => k_is)
    (case xl_TooMany => k_is)
    (case be_TooMany => rfl)
    (case rf_TooMany => decide +kernel)
    (case sa_TooMany => k_is)
    (case ex_TooMany => k_is)
    (case kp_TooMany => k_is)
    (case ga_TooMany => k_is)
    (case gg_TooMany => k_is)
    (case hd_TooMany => k_is)
    (case cc_TooMany => k_is)
    (case mo_TooMany => k_is)
    (case nmost_TooMany => k_is)
    (case in_TooMany => k_is)
    (case tf_TooMany => k_is)
    (case l_TooManyD_initD => k_is)
    (case co_TooManyD_initD => k_is)
    (case kp_TooManyD_initD => k_is)
    (case xl_NoKind => k_is)
    (case be_NoKind => rfl)
    (case rf_NoKind => decide +kernel)
    (case sa_NoKind => k_is)
    (case ex_NoKind => k_is)
    (case kp_NoKind => k_is)
    (case ga_NoKind => k_is)
    (case gg_NoKind => k_is)
    (case hd_NoKind => k_is)
    (case cc_NoKind => k_is)
    (case mo_NoKind => k_is)
    (case in_NoKind => k_is)
    (case tf_NoKind => k_is)
    (case l_NoKindD_initD => k_is)
    (case co_NoKindD_initD => k_is)
    (case kp_NoKindD_initD => k_is)
    (case in0 => k_is)
    (case it0 => k_is)
    (case a_law => k_is)
    (case l_law => k_is)
    (case co_law => k_is)
    (case kp_law => k_is)
    (case lc_PM => k_is)
    (case v11_PM => rfl)
    (case ch_PM => kernel_rfl)
    (case kl_PM => first | k_is | kernel_rfl)
    (case tb_PM => exact PySem.W.km_tabs_of Y _ (by k_mem))
    (case lc_PN => k_is)
    (case v11_PN => rfl)
    (case ch_PN => kernel_rfl)
    (case kl_PN => first | k_is | kernel_rfl)
    (case tb_PN => exact PySem.W.km_tabs_of Y _ (by k_mem))
    (case ne_P => decide)
    (case nd => decide)
