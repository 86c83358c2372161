import PyProof.Rows.All
import HandS.MethStar
import HandS.SlotsOwn
import HandS.Star
import HandS.More
import HandS.IsInst
import KE.KCallOwn
import KE.KxField
import HandS.FStr
import PyProof.Rows.StrIntSpec
import PyProof.FString3
import PyProof.FactsAll.int_2
import KE.KxWritten
import HandS.Lambda
import HandS.Codes
import HandS.Words
import HandS.EndTab
import HandS.EndBits
import HandS.NestedK
import KE.KNestM
import PyProof.ReprRoads
import HandS.Evl
import HandS.ExcInit
import HandS.ExcIs
import HandS.ExcCtx
import HandS.SuiteRaise
import KE.KExcIs
import Wide.All
import OpenK.AllK
import Wide.FinOn
import HandS.ForMost
import HandS.Property
import HandS.ClsMeth
import HandS.Conv
import HandS.Wide
import HandS.WideBits
import HandS.Flow
import HandS.Zip
import HandS.Strs
import KE.GoesEnum
import HandS.WordsExc
import HandS.TupAny
import HandS.OwnEq
import HandS.Deep
import HandS.TupLen
import HandS.MakeKwOnly
import KE.KDictKeyed
import KE.KTupSum
import PyProof.SumAnyB
import PyProof.EnumMake
import PyProof.EqKinds
import HandS.NoneIn
import PyProof.ReprLen
import HandS.SetKeys
import PyProof.Rows.SetFrom
import PyProof.TupleIter
import HandS.Nested
import KE.KStar
import KE.KSuper
import PyProof.TupleOfSeq
import PyProof.EqAt
import PyProof.NeKinds
import HandS.Style

import PySem.Challenge.RW_modesdown_k12_users_made

set_option Elab.async false
set_option linter.all false
set_option maxRecDepth 100000
set_option maxHeartbeats 4000000
namespace KD
open PySem PySem.Spec PyProof.Rows L2
section
open PySem.W PySem.Calls Builtin
variable {prog : Program} {w : World} {A : Around} {E : Value → Shared → Prop} {s : Shared} {K : Frag} {x C L f : Addr} {h₀ : Heap} {m : Str → Option Value} {ox : Obj} {od : Option Obj}
theorem bool_own {Q : Value → Shared → Prop} (F : Fr h₀ L s.heap m) (X₀ : K.In h₀) (I : InstAt s.heap x ox C od) (hs : findIn K (.ref C) "__bool__" = some (some (.ref f))) (hf : isFn K (.ref f) = true)
    (h : wpAny (model prog w) A.in1.in1 (call (.ref f) [.ref x]) (PySem.W.BoolBack fun b s' => Q (.bool b) s') E s) : wpAny (model prog w) A (call (.type "bool") [.ref x]) Q E s := by
  refine callType_codes (T := "bool") (Bi := Builtin.«object.__init__») (Q₁ := fun r s₁ => ∃ b, r = .bool b ∧ Q r s₁) PySem.F.called_bool (PySem.F.typeCall_bool_1 _) PySem.F.entry_object_init ?_ ?_
  · refine codeAny_of_tree ?_
    show wpAny _ A.in1.in1 (do checkBuiltinCall "bool.__new__" ⟨[.type "bool", .ref x], []⟩; again (.builtin "bool.__new__" ⟨[.type "bool", .ref x], []⟩)) _ _ s
    refine wpAny_bind (wpAny_of_eq (PySem.F.newCall_bool_1 _) (wpAny_pure ⟨plainId_quiet (by decide +kernel) _, codeAny_builtin PySem.F.entry_bool_new ?_⟩))
    rw [Around.under_plainId (by decide +kernel) _]
    unfold Builtin.«bool.__new__»
    refine wpAny_bind (m := isType _) (wpAny_pure ?_)
    refine wpAny_bind (wpAny_of_eq PySem.F.conv_sub_bool ?_)
    refine wpAny_bind (m := someArgs _ _ _ _) (wpAny_pure ?_)
    refine wpAny_bind (truthy_K F X₀ I hs hf (wpAny_mono h (fun r s₁ hr => ?_) fun _ _ y => y))
    cases r <;> first | exact hr.elim | exact wpAny_pure ⟨_, rfl, hr⟩
  · rintro obj s₁ ⟨b, rfl, hq⟩
    exact ⟨PySem.typeIs_bool _ _, PySem.F.args_object_init_2 _ _, object_init_meets PySem.F.called_bool.init.lookup PySem.F.called_bool.made (by decide) prog w A.in1 _ s₁ ⟨PySem.typeIs_bool _ _, rfl, hq⟩⟩
end
section
variable {X : Cx} {CX : CXT} {C g : Addr} {n : Nat} {sp : Sp} {E : XK}
/-- repr, len, bool of an own instance -/
def rReprOwn (C : Addr) (sp : Sp) (E : XK) : List V → Hp → VK → Prop := fun xs H Q => ∃ a dx fs, xs = [V.ref a] ∧ H a = some (.ins C dx fs) ∧ sp [.ref a] H (fun z H' => ∃ s, z = .str s ∧ Q z H') E
def rLenOwn (C : Addr) (sp : Sp) (E : XK) : List V → Hp → VK → Prop := fun xs H Q => ∃ a dx fs, xs = [V.ref a] ∧ H a = some (.ins C dx fs) ∧ sp [.ref a] H (fun z H' => ∃ n : Int, z = .int n ∧ 0 ≤ n ∧ n < 2 ^ 63 ∧ Q z H') E
def rBoolOwn (C : Addr) (sp : Sp) (E : XK) : List V → Hp → VK → Prop := fun xs H Q => ∃ a dx fs, xs = [V.ref a] ∧ H a = some (.ins C dx fs) ∧ sp [.ref a] H (fun z H' => ∃ b, z = .bl b ∧ Q z H') E
theorem call_reprOwn (hs : PySem.W.findIn X.K (.ref C) "__repr__" = some (some (.ref g))) (hf : PySem.W.isFn X.K (.ref g) = true) (F : FnR X.prog X.w X.K X.mg X.base CX n g sp) (hr : Room (n + 1) X.A) (hx : Passes CX X E) : CallR X (.builtin "repr") (rReprOwn C sp E) := by
  intro pins s σ H xs us Q I r start
  obtain ⟨a, dx, fs, rfl, hsl, q⟩ := start
  obtain ⟨u, rfl, ru⟩ := r.one
  obtain rfl : u = Value.ref a := ru
  obtain ⟨ox, od, J, _⟩ := StX.insC_at (X := X) I (.inr ⟨dx, fs, hsl⟩)
  have low : Room n X.A.in1 := Room.in1 hr
  obtain ⟨m, hF⟩ := I.fr
  refine PySem.W.repr_K low.units0 hF I.ok.mod.kin J hs hf (wpAny_mono (wpAny_call (SlX.run_at (us := [.ref a]) (ws := [.ref a]) F low I.env0.in1 hx I (.cons rfl .nil) q)) (fun w s' z => ?_) fun _ _ x => x)
  obtain ⟨z', H', I', rz, s2, ei, qz⟩ := z
  subst ei
  obtain ⟨t, e⟩ := (show ∃ t, w = Value.str s2 t from rz)
  cases e
  exact ⟨.str s2, H', I', ⟨t, rfl⟩, qz⟩
theorem call_lenOwn (hs : PySem.W.findIn X.K (.ref C) "__len__" = some (some (.ref g))) (hf : PySem.W.isFn X.K (.ref g) = true) (F : FnR X.prog X.w X.K X.mg X.base CX n g sp) (hr : Room (n + 1) X.A) (hx : Passes CX X E) : CallR X (.builtin "len") (rLenOwn C sp E) := by
  intro pins s σ H xs us Q I r start
  obtain ⟨a, dx, fs, rfl, hsl, q⟩ := start
  obtain ⟨u, rfl, ru⟩ := r.one
  obtain rfl : u = Value.ref a := ru
  obtain ⟨ox, od, J, _⟩ := StX.insC_at (X := X) I (.inr ⟨dx, fs, hsl⟩)
  have low : Room n X.A.in1 := Room.in1 hr
  obtain ⟨m, hF⟩ := I.fr
  refine PySem.W.len_K hF I.ok.mod.kin J hs hf (wpAny_mono (wpAny_call (SlX.run_at (us := [.ref a]) (ws := [.ref a]) F low I.env0.in1 hx I (.cons rfl .nil) q)) (fun w s' z => ?_) fun _ _ x => x)
  obtain ⟨z', H', I', rz, i, ei, h0, h1, qz⟩ := z
  subst ei
  obtain ⟨t, e⟩ := (show ∃ t, w = Value.int i t from rz)
  cases e
  exact ⟨⟨h0, h1⟩, .int i, H', I'.tok _, ⟨_, rfl⟩, qz⟩
theorem call_boolOwn (hs : PySem.W.findIn X.K (.ref C) "__bool__" = some (some (.ref g))) (hf : PySem.W.isFn X.K (.ref g) = true) (F : FnR X.prog X.w X.K X.mg X.base CX n g sp) (hr : Room (n + 2) X.A) (hx : Passes CX X E) : CallR X (.type "bool") (rBoolOwn C sp E) := by
  intro pins s σ H xs us Q I r start
  obtain ⟨a, dx, fs, rfl, hsl, q⟩ := start
  obtain ⟨u, rfl, ru⟩ := r.one
  obtain rfl : u = Value.ref a := ru
  obtain ⟨ox, od, J, _⟩ := StX.insC_at (X := X) I (.inr ⟨dx, fs, hsl⟩)
  have low : Room (n + 1) X.A.in1 := Room.in1 hr
  have hr2 : Room n X.A.in1.in1 := low.in1
  obtain ⟨m, hF⟩ := I.fr
  refine bool_own hF I.ok.mod.kin J hs hf (wpAny_mono (wpAny_call (SlX.run_at (us := [.ref a]) (ws := [.ref a]) F hr2 I.env0.in1.in1 hx I (.cons rfl .nil) q)) (fun w s' z => ?_) fun _ _ x => x)
  obtain ⟨z', H', I', rz, b, ei, qz⟩ := z
  subst ei
  obtain rfl : w = Value.bool b := rz
  exact ⟨.bl b, H', I', rfl, qz⟩
end
end KD
set_option Elab.async false
set_option linter.all false
set_option maxRecDepth 100000
set_option maxHeartbeats 4000000
namespace KD
open PySem PySem.Spec PyProof.Rows L2
section
open PySem.W Builtin Builtin.Str Builtin.Int Builtin.Float PySem.Calls
def spec8 : Str := "03o"
def f8 : FormatSpec := { fill := 48, align := 61, width := some 3, type := some 111 }
def octS (n : Nat) : Str := intField' f8 false [] ((Nat.toDigits 8 n).map fun c => (if (111 : Nat) == 88 then c.toUpper else c).toNat) [] 4
theorem f8_is : parseFormatSpec spec8.cps.toList "int" 62 = .ok f8 := by kernel_rfl
theorem f8_ty : f8.type = some 111 ∧ f8.precision.isSome = false ∧ f8.noNeg0 = false ∧ f8.alt = false ∧ (decide (f8.width.getD 0 > 100000)) = false := by decide +kernel
theorem s8_asc : ((spec8.cps.toList.drop 1).any (· ≥ 128) || (spec8.cps.getD 0 0 ≥ 128 && !([60, 62, 61, 94] : List Nat).contains (spec8.cps.getD 1 0))) = false := by decide +kernel
theorem s8_ne : (spec8.length == 0) = false := by decide +kernel
theorem oct_len : ∀ n : Nat, n < 512 → (octS n).length = 3 := by
  have h : ((List.range 512).all fun n => decide ((octS n).length = 3)) = true := by decide +kernel
  exact fun n hn => of_decide_eq_true (List.all_eq_true.mp h n (List.mem_range.mpr hn))
variable {prog : Program} {w : World} {A : Around} {E : Value → Shared → Prop} {s : Shared}
theorem field_oct {n : Nat} {t : Tok} {Q : Value → Shared → Prop} (hn : n < 512) (h : ∀ t' k, Q (.str (octS n) t') { s with toks := k }) : wpAny (model prog w) A (formatField (.int (n : Nat) t) spec8) Q E s := by
  obtain ⟨h1, h2, h3, h4, h5⟩ := f8_ty
  show wpAny _ _ (holding [.int (n : Nat) t] (pyFormat (.int (n : Nat) t) spec8)) Q E s
  refine wpAny_holding ?_
  unfold pyFormat
  refine wpAny_bind (wpAny_mkStr ?_ (by show 3 ≤ sizeLine; decide))
  refine wpAny_bind (m := callSpecial? (.int (n : Nat) t) (Str.ofString "__format__") [.str spec8 s.toks]) (wpAny_callSpecial?_slot (name := Str.ofString "__format__") (PySem.typeIs_int _ _ t) PySem.F.slot_int_format ?_)
  refine wpAny_call (codeAny_call_builtin PySem.F.slot_int_format.plain PySem.F.entry_int_format (PySem.F.slot_int_format.check _ _ _ _ _ _ _ _ (PySem.typeIs_int _ _ t) (PySem.F.args_int_format_2 _ _) ?_))
  unfold Builtin.«int.__format__»
  simp only [selfAndOne, noKeywords, Int.intOfSelf, asInt?, asStr?, List.isEmpty_nil, if_true, pure_bind, bind_pure, bind_assoc, s8_ne, s8_asc, Bool.false_eq_true, if_false,
    show (Value.str spec8 s.toks == Value.none) = false from rfl]
  refine wpAny_bind (wpAny_typeNameOf (T := "str") (PySem.typeIs_str _ _ _) (by decide) fun _ => ?_)
  refine wpAny_bind (wpAny_typeNameOfCut_int ?_)
  simp only [f8_is, h1, Option.getD_some]
  rw [if_pos (by decide)]
  obtain ⟨f, hf⟩ : ∃ f, f = f8 := ⟨_, rfl⟩
  rw [← hf] at h2 h3 h4 h5 ⊢
  show wpAny _ _ (if _ then _ else _) _ _ _
  rw [if_neg (by rw [h2]; decide)]
  show wpAny _ _ (if _ then _ else _) _ _ _
  rw [if_neg (by rw [h3]; decide)]
  show wpAny _ _ (if _ then _ else _) _ _ _
  rw [if_neg (by decide)]
  show wpAny _ _ (if _ then _ else _) _ _ _
  rw [if_neg (by decide)]
  show wpAny _ _ (if _ then _ else _) _ _ _
  rw [if_neg (of_decide_eq_false h5)]
  show wpAny _ _ (retStr _) _ _ _
  subst hf
  refine KXf.ret_text (T := octS n) ?_ ?_ fun t' k => ?_
  · rw [decide_eq_false (show ¬ (n : Int) < 0 by omega)]
    rfl
  · rw [decide_eq_false (show ¬ (n : Int) < 0 by omega)]
    exact Nat.le_trans (Nat.le_of_eq (oct_len n hn)) (by decide)
  · exact wpAny_bind (wpAny_isInstance (PySem.typeIs_str _ _ _) isSubtype_str_str (wpAny_pure (h _ _)))
end
section
variable {X : Cx}
def tOct (te : TE) : TE := fun σ H Q => te σ H fun x H1 => ∃ n : Nat, x = .int (n : Nat) ∧ n < 512 ∧ Q (.str (octS n)) H1
theorem pe_fmt8 {e : Expr} {te : TE} {pos p1 p2 : Pos} {k : Nat} (he : PE X e te) : PE X (.FormattedValue e (-1) (some (.JoinedStr [.Constant (.str "03o") k p1] p2)) pos) (tOct te) := by
  refine ⟨fun pins s σ H Q I h => ?_⟩
  refine wpAny_FormattedValue_spec (thn (he.run pins s σ H _ I h) fun v s1 ⟨x, H1, I1, r1, n, ex, hn, q⟩ => ?_)
  subst ex
  obtain ⟨t, rfl⟩ := r1
  have hs : PE X (.JoinedStr [.Constant (.str "03o") k p1] p2) (tC (.str "03o")) := pe_joined1 pe_str
  refine thn (hs.run pins s1 σ H1 (fun y H2 => y = .str "03o" ∧ H2 = H1) I1 ⟨rfl, rfl⟩) fun r s2 ⟨y, H2, I2, ry, ey, eH⟩ => ?_
  subst ey eH
  obtain ⟨t2, rfl⟩ := ry
  exact ⟨_, t2, rfl, field_oct hn fun t' k => ⟨.str (octS n), H2, I2.tok _, ⟨_, rfl⟩, q⟩⟩
/-- x op y, x an own instance -/
def rOwnB (K : PySem.W.Frag) (C : Addr) (sp : Sp) (E : XK) : R2 := fun x y H Q => ∃ (p dx : Addr) (fs : List (Str × V)) (t : Value), x = .ref p ∧ H p = some (.ins C dx fs) ∧ TyX K H y t ∧ PySem.W.notFirst K C t = true ∧ sp [x, y] H Q E
theorem op_ownB {CX : CXT} {C g : Addr} {n : Nat} {sp : Sp} {E : XK} {op : CmpOp} (hop : ∀ a b, compareOp op a b = richCompare op a b) (hs : PySem.W.findIn X.K (.ref C) (cmpInfo op).2.1 = some (some (.ref g))) (hf : PySem.W.isFn X.K (.ref g) = true)
    (F : FnR X.prog X.w X.K X.mg X.base CX n g sp) (room : Room n X.A) (hx : Passes CX X E) : OpR X (compareOp op) (rOwnB X.K C sp E) := by
  intro pins s σ H x y v u Q I rx ry told
  obtain ⟨p, dx, fs, t, rfl, hp, ty, nf, want⟩ := told
  obtain rfl : v = Value.ref p := rx
  obtain ⟨o1, d1, J1, _⟩ := StX.insC_at (X := X) I (.inr ⟨dx, fs, hp⟩)
  obtain ⟨Pp, Z, hpp, _⟩ := kit_of I ry ty
  obtain ⟨m, hF⟩ := I.fr
  rw [hop]
  refine PySem.W.cmp_K (op := op) (tb := t) room.units0 hF I.ok.mod.kin J1 (Z.ty _ _ I.kIn hpp) nf hs hf (wpAny_mono (wpAny_call (run_fnR (us := [.ref p, u]) (vs := [.ref p, y]) F room hx I (.cons rfl (.cons ry .nil)) want)) (fun r s' got => ?_) fun _ _ same => same)
  obtain ⟨z, H', I', rz, end_⟩ := got
  exact SlX.cmpback rz ⟨z, H', I', rz, end_⟩
theorem mt_scount : MtR X "str.count" (fun x xs H Q => ∃ a b, x = .str a ∧ xs = [.str b] ∧ Q (.int (Txt.count a b)) H) := by
  intro pins s σ H x xs v us Q I rx rxs h
  obtain ⟨a, b, rfl, rfl, q⟩ := h
  obtain ⟨t, rfl⟩ := rx
  obtain ⟨u, rfl, ru⟩ := rxs.one
  obtain ⟨t2, rfl⟩ := ru
  exact PySem.W.KXw.count rfl fun t' k => ⟨.int _, H, I.tok _, ⟨_, rfl⟩, q⟩
end
end KD
set_option Elab.async false
set_option linter.all false
set_option maxRecDepth 100000
set_option maxHeartbeats 4000000
namespace KD
open PySem PySem.Spec PyProof.Rows L2 LamX
/-! ### defs that are run where no object is being shown -/
def RunAt (P : Program) (w : World) (K : PySem.W.Frag) (mg : Str → Option Value) (base : Heap) (A : Around) (f : Addr) (fd : FuncData) (ps : List Str) (sp : Sp) : Prop :=
  ∀ (outer : List Env) (s : Shared) (H : Hp) (args : Args) (us : List Value) (vs : List V) (Q : VK) (E : XK), Env0 P w K mg base A outer s H → BindsTo s fd args (ps.zip us) → Vals vs us → sp vs H Q E →
    codeAny (model P w) A (.call (.ref f) args) (CR CX0 outer P w H s Q E) s
structure FnG (P : Program) (w : World) (K : PySem.W.Frag) (mg : Str → Option Value) (base : Heap) (k : Nat) (f : Addr) (fd : FuncData) (ps : List Str) (sp : Sp) : Prop where
  len : ∀ vs H Q E, sp vs H Q E → vs.length = ps.length
  run : ∀ A : Around, A.guards = some [] → Room k A → RunAt P w K mg base A f fd ps sp
theorem fnG_of {P : Program} {w : World} {K : PySem.W.Frag} {mg : Str → Option Value} {base : Heap} {k : Nat} {x qual : Str} {st : Stmt} {f : Addr} {oc kV doc pm cdv ct : Value} {an od : Option Addr} {osl : Array (Option Value)} {N ps : List Str} {sp : Sp}
    (at_ : K.lookup f = some ⟨oc, od, .func (PySem.W.fnOf x qual (defArgs st) (defBody st) (defScope st) .none kV doc pm an cdv ct), osl⟩) (code : PySem.W.codeIn K cdv qual = true) (S : FnScope N ps (defScope st)) (len : ∀ vs H Q E, sp vs H Q E → vs.length = ps.length)
    (body : ∀ (A : Around) (outer : List Env) (s : Shared) (H : Hp) (vs : List V) (Q : VK) (E : XK), A.guards = some [] → Room k (A.deeper (envOfC qual (defScope st) s.heap.objs.size f cdv)) → sp vs H Q E →
      ∃ t, PSs (cxOf CX0 P w K mg base N qual (defScope st) f cdv A outer s H E).nox (defBody st) t ∧ t { nx := fun _ H' => Q .non H', rt := Q } (start N vs) H) :
    FnG P w K mg base (k + 1) f (PySem.W.fnOf x qual (defArgs st) (defBody st) (defScope st) .none kV doc pm an cdv ct) ps sp := by
  refine ⟨len, fun A gd room outer s H args us vs Q E e0 bind vals want => ?_⟩
  have many := len _ _ _ _ want
  have inK : K.In s.heap := e0.mod.kin.keeps fun b o q => (e0.bs b o q).1
  have free : s.heap.NoLimit := e0.mod.nolimit.keeps fun b o q => (e0.bs b o q).1
  have kinds : ∀ y ∈ ps.zip us, (defScope st).names.lookup y.1 = some .local ∨ ((defScope st).names.lookup y.1 = some .cell ∧ ((cellsFrom (s.heap.objs.size + 1) (defScope st).names []).lookup y.1).isSome = true) := fun y hy =>
    (S.par y.1 (List.of_mem_zip hy).1).imp id fun q => ⟨q, PySem.W.cellsFrom_some _ _ _ (.inl q)⟩
  refine codeAny_call_function room.depth (inK _ _ at_) rfl S.co S.gen rfl (PySem.W.codeRec_of inK code) (bind _ _ _ _ ?_)
  refine wpAny_newFunctionEnv_cells S.kind kinds fun env he s1 call => ?_
  subst he
  obtain ⟨t, does, reads⟩ := body A outer s H vs Q E gd (room.deeper _) want
  refine ⟨free.keeps call.toInCall.keep, codeAny_func (wpAny_mono (does.nox.run [] s1 (start N vs) H _ (inv_start S room.hd e0 many vals call) reads) (fun fl s' ends => ?_) fun _ _ q => q)⟩
  cases fl with
  | ret u => exact let ⟨v, σ', H', J, rv, q⟩ := ends; ⟨v, H', J.os, J.bare, J.base, J.hok, rv, q⟩
  | next => exact let ⟨σ', H', J, q⟩ := ends; ⟨.non, H', J.os, J.bare, J.base, J.hok, rfl, q⟩
  | brk => exact let ⟨_, _, _, q⟩ := ends; False.elim q
  | cont => exact let ⟨_, _, _, q⟩ := ends; False.elim q
section
variable {X : Cx} {k : Nat} {f : Addr} {fd : FuncData} {ps : List Str} {sp : Sp} {E : XK} {x : Str} {e : Expr} {es : List Expr} {t : TA} {p pos : Pos}
/-- a call of such a def, where no object is being shown -/
theorem pe_callG (F : FnG X.prog X.w X.K X.mg X.base k f fd ps sp) (gd : X.A.guards = some []) (room : Room k X.A) (hg : Gl X x) (hm : X.mg x = some (.ref f)) (kp : PySem.W.keepIn X.K (.ref f) = true) (hb : Binds X.K fd ps [])
    (ha : PA X (e :: es) t) (nodb : (x == ("__debug__" : Str)) = false := by decide) (flat : starEach (e :: es) X.env = (false, eval e X.env) :: starEach es X.env := by rfl) (plain : (backTo pos (starEach es X.env)).any (·.1) = false := by rfl) :
    PE X (.Call (.Name x p) (e :: es) [] pos) (tCall sp [] E t) := by
  refine ⟨fun pins s σ H Q I h => ?_⟩
  refine wpAny_Call_Name_kw (ld_glob I hg hm ?_ nodb)
  refine PySem.W.callWith_K (h₀ := X.base) I.ok.mod.kin kp (thn (ha.run pos pins s σ H _ I h) fun us s1 ⟨vs, H1, J, r, q⟩ => ⟨J.kIn, ?_⟩) flat plain
  have q : sp vs H1 Q E := by rw [← List.append_nil vs]; exact q
  have many : us.length = ps.length := by rw [← r.length]; exact F.len _ _ _ _ q
  have bind := hb s1 us J.kIn (by rw [List.append_nil]; exact many)
  rw [List.append_nil] at bind
  refine wpAny_call (codeAny_mono (F.run X.A gd room X.stack s1 H1 ⟨us, []⟩ us vs Q E J.env0 bind r q) fun r s' got => ?_)
  match r, got with
  | .error _, got => exact False.elim got
  | .ok (.ret _), got => exact J.after got
  | .ok .next, got => exact False.elim got
  | .ok .brk, got => exact False.elim got
  | .ok .cont, got => exact False.elim got
/-! repr of what can be read, where no object is being shown -/
inductive RepV (K : PySem.W.Frag) (H : Hp) : V → Str → Prop
  | int {i : Int} (h : i.natAbs.log2 < 1920) : RepV K H (.int i) (toString i)
  | non : RepV K H .non "None"
  | bl (b : Bool) : RepV K H (.bl b) (if b then "True" else "False")
  | str {z : Str} (h : (reprText z).length ≤ sizeLine) : RepV K H (.str z) (reprText z)
  | obj {p : Addr} {d : PyData} (hd : Dp K H (.ref p) d) (h1 : d.showable = true) (h2 : d.hasDict = false) (h3 : d.depth ≤ 60) (h4 : d.shown.length ≤ sizeLine) : RepV K H (.ref p) d.shown
def rReprV (K : PySem.W.Frag) : List V → Hp → VK → Prop := fun xs H Q => ∃ (x : V) (s : Str), xs = [x] ∧ RepV K H x s ∧ Q (.str s) H
theorem call_reprV (gd : X.A.guards = some []) (hu : X.A.units + 64 < cLine) : CallR X (.builtin "repr") (rReprV X.K) := by
  intro pins s σ H xs us Q I r start
  obtain ⟨v, z, rfl, rep, q⟩ := start
  obtain ⟨u, rfl, ru⟩ := r.one
  cases rep with
  | int h =>
    obtain ⟨t, rfl⟩ := ru
    exact PySem.P.repr_of_int h ⟨.str _, H, I.tok _, ⟨_, rfl⟩, q⟩
  | non =>
    obtain rfl : u = Value.none := ru
    exact PySem.P.repr_of_none ⟨.str _, H, I.tok _, ⟨_, rfl⟩, q⟩
  | bl b =>
    obtain rfl : u = Value.bool b := ru
    exact PySem.P.repr_of_bool ⟨.str _, H, I.tok _, ⟨_, rfl⟩, q⟩
  | str h =>
    obtain ⟨t, rfl⟩ := ru
    exact PySem.P.repr_of_str ⟨.str _, H, I.tok _, ⟨_, rfl⟩, q⟩ h
  | @obj p d hd h1 h2 h3 h4 =>
    obtain ⟨as, reads⟩ := Dp.reads I d (.ref p) u hd ru
    obtain rfl : u = Value.ref p := ru
    exact repr_of_reads' reads h1 (fun h => by rw [h2] at h; cases h) gd (by omega) (fun _ _ e => e) (fun g t tk rest => ⟨.str d.shown, H, I.kept (t' := tk) rest, ⟨t, rfl⟩, q⟩) h4
end
/-! ### a law with lambdas, run at the top alone -/
def tab0 : Obj := { cls := .none, data := .fields #[] }
def fz (vs : List Value) (ns : List Int) : HO := .frz { cls := .type "list", data := .seq vs.toArray } (.lst (ns.map V.int))
/-- what the law is told: the empty tables, and the script, if it is none of the written objects -/
structure Told0 (P : Program) (w : World) (K : PySem.W.Frag) (h : Heap) (a : Addr) (ns : List Int) (Ts : List Addr) (H : Hp) : Prop where
  tabs : ∀ b ∈ Ts, H b = some (.tbl #[])
  only : ∀ b, b ∉ Ts → H b = none ∨ ∃ ob xs, H b = some (.frz ob (.lst xs))
  seq : SqL K H a (ns.map V.int)
  hok : HOk P w H h
  here : ∀ b, H b ≠ none → b = a ∨ b ∈ Ts
  lone : H a ≠ none → K.lookup a = none
theorem told0 {P : Program} {w : World} {K : PySem.W.Frag} {h : Heap} {a : Addr} {vs : List Value} {ns : List Int} {Ts : List Addr} (inK : K.In h) (ha : h.get? a = some { cls := .type "list", data := .seq vs.toArray }) (hi : IntsAre vs ns) (hl : ns.length ≤ sizeLine) (tb : ∀ b ∈ Ts, h.get? b = some tab0) : ∃ H : Hp, Told0 P w K h a ns Ts H := by
  have rv := vals_ints hi
  have off : a ∉ Ts := fun z => by
    have q := (tb a z).symm.trans ha
    exact nomatch congrArg Obj.data (Option.some.inj q)
  cases hk : K.lookup a with
  | some o =>
    obtain rfl : o = { cls := .type "list", data := .seq vs.toArray } := Option.some.inj ((inK a o hk).symm.trans ha)
    refine ⟨fun b => if b ∈ Ts then some (.tbl #[]) else none, fun b m => if_pos m, fun b m => .inl (if_neg m), .inr ⟨_, vs.toArray, _, hk, rfl, rfl, rfl, by rw [List.size_toArray, hi.length]; exact hl, by simpa using rv⟩, fun b u z => ?_, fun b z => .inr (Classical.byContradiction fun n => z (if_neg n)), fun z => absurd (if_neg off) z⟩
    by_cases m : b ∈ Ts
    · obtain rfl : HO.tbl #[] = u := Option.some.inj ((if_pos m).symm.trans z)
      exact tb b m
    · exact nomatch (if_neg m).symm.trans z
  | none =>
    have ifa : (if a ∈ Ts then some (HO.tbl #[]) else if a = a then some (fz vs ns) else none) = some (fz vs ns) := (if_neg off).trans (if_pos rfl)
    refine ⟨fun b => if b ∈ Ts then some (.tbl #[]) else if b = a then some (fz vs ns) else none, fun b m => if_pos m, fun b m => ?_, .inl (.inr ⟨_, ifa⟩), fun b u z => ?_, fun b z => ?_, fun _ => hk⟩
    · by_cases e : b = a
      · exact .inr ⟨_, _, (if_neg m).trans (if_pos e)⟩
      · exact .inl ((if_neg m).trans (if_neg e))
    · by_cases m : b ∈ Ts
      · obtain rfl : HO.tbl #[] = u := Option.some.inj ((if_pos m).symm.trans z)
        exact tb b m
      · have z2 := (if_neg m).symm.trans z
        by_cases e : b = a
        · obtain rfl : fz vs ns = u := Option.some.inj ((if_pos e).symm.trans z2)
          have few : (ns.map V.int).length ≤ sizeLine := by rw [List.length_map]; exact hl
          rw [e]
          exact ⟨ha, few, vs, _, rv, ha⟩
        · exact nomatch (if_neg e).symm.trans z2
    · by_cases m : b ∈ Ts
      · exact .inr m
      · by_cases e : b = a
        · exact .inl e
        · exact absurd ((if_neg m).trans (if_neg e)) z
theorem top_tabs {P : Program} {w : World} {K : PySem.W.Frag} {mg mb : Str → Option Value} {fa a : Addr} {fd : FuncData} {x : Str} {sp : Sp} {s₁ : Shared} {vs : List Value} {ns : List Int} {cs : List (Addr × Addr)} (inK : K.In s₁.heap) (names : s₁.heap.Ns mainGlobals mg) (hb : s₁.heap.Ns builtinsNs mb)
    (boot : ∀ x : Str, x ≠ "__name__" → mb x = bootBuiltins x) (free : s₁.heap.NoLimit) (young : s₁.gens = #[]) (ha : s₁.heap.get? a = some { cls := .type "list", data := .seq vs.toArray }) (hi : IntsAre vs ns) (hl : ns.length ≤ sizeLine)
    (tb : ∀ p ∈ cs, s₁.heap.get? p.2 = some tab0) (away : ∀ p ∈ cs, K.lookup p.2 = none) (hd : ∀ p ∈ cs, PySem.W.codeHdIn K p.1 p.2 = true)
    (main : ∃ (bm : Addr) (ob : Obj), mg "__builtins__" = some (.ref bm) ∧ bm ≠ builtinsNs ∧ s₁.heap.get? bm = some ob ∧ ob.cls = .type "module" ∧ ob.dict = some builtinsNs ∧ ob.data = .plain)
    (F : ∀ base : Heap, K.In base → base.Ns mainGlobals mg → (∀ p ∈ cs, TabB base mg p.1 p.2) → RunAt P w K mg base callerA fa fd [x] sp) (bind : ∀ (s : Shared) (u : Value), BindsTo s fd ⟨[u], []⟩ [(x, u)])
    (want : ∀ H : Hp, (∀ p ∈ cs, H p.2 = some (.tbl #[])) → SqL K H a (ns.map V.int) → sp [.ref a] H (fun v _ => v = .bl true) fun _ _ _ => False) :
    codeAny (model P w) callerA (.call (.ref fa) ⟨[.ref a], []⟩) (fun r s' => r = .ok (.ret (.bool true)) ∧ OldK s₁.heap s'.heap ∧ s'.os = s₁.os ∧ AllBare s'.gens) s₁ := by
  have tb' : ∀ b ∈ cs.map (·.2), s₁.heap.get? b = some tab0 := fun b m => by
    obtain ⟨p, hp, rfl⟩ := List.mem_map.mp m
    exact tb p hp
  obtain ⟨H, told⟩ := told0 (P := P) (w := w) inK ha hi hl tb'
  have in_ : ∀ p ∈ cs, p.2 ∈ cs.map (·.2) := fun p hp => List.mem_map.mpr ⟨p, hp, rfl⟩
  -- what is neither a list nor a table stays in the base
  have out : ∀ {b : Addr} {o : Obj}, s₁.heap.get? b = some o → (∀ it n, o.data ≠ .seq it n) → o.data ≠ .fields #[] → (hidT s₁.heap H).get? b = some o := fun {b o} g n1 n2 => hidT_get g (Classical.byContradiction fun z => by
    rcases told.here b z with rfl | m
    · rw [ha] at g
      cases g
      exact n1 _ _ rfl
    · rw [tb' b m] at g
      cases g
      exact n2 rfl)
  have ns' : ∀ {b : Addr} {m : Str → Option Value}, s₁.heap.Ns b m → (hidT s₁.heap H).Ns b m := fun ⟨o, es, ep, g, d, r⟩ => ⟨o, es, ep, out g (fun _ _ z => nomatch d.symm.trans z) (fun z => nomatch d.symm.trans z), d, r⟩
  have inB : K.In (hidT s₁.heap H) := fun b o q => hidT_get (inK b o q) (Classical.byContradiction fun z => by
    rcases told.here b z with rfl | m
    · rw [told.lone z] at q
      cases q
    · obtain ⟨p, hp, rfl⟩ := List.mem_map.mp m
      rw [away p hp] at q
      cases q)
  have free' : (hidT s₁.heap H).NoLimit := let ⟨mc, h1, h2⟩ := free; ⟨mc, ns' h1, h2⟩
  have glob : ∀ {b : Addr} {o : Obj}, s₁.heap.get? b = some o → (∀ es n, o.data ≠ .dict es n) → mainGlobals ≠ b := fun g n z => by
    obtain ⟨o, es, ep, g2, d, _⟩ := names
    rw [z, g] at g2
    cases g2
    exact n _ _ d
  have tabs : ∀ p ∈ cs, TabB (hidT s₁.heap H) mg p.1 p.2 := fun p hp => by
    obtain ⟨bm, ob, m1, m2, m3, m4, m5, m6⟩ := main
    refine ⟨PySem.W.codeHd_of_K inB (hd p hp), ⟨bm, ob, m1, m2, (glob m3 fun _ _ z => nomatch m6.symm.trans z).symm, fun z => ?_, out m3 (fun _ _ z => nomatch m6.symm.trans z) (fun z => nomatch m6.symm.trans z), m4, m5, m6⟩, glob (tb p hp) fun _ _ z => nomatch z⟩
    rw [z, tb p hp] at m3
    cases m3
    cases m6
  have e0 : Env0 P w K mg (hidT s₁.heap H) callerA [] s₁ H := ⟨rfl, ⟨inB, ns' names, ⟨mb, ns' hb, boot⟩, free'⟩, fun b o q => of_hidT q, Nat.le_of_eq (hidT_size _ _), trivial, fun b m => absurd (show b ∈ ([] : List Addr) from m) List.not_mem_nil, told.hok, .of_eq young⟩
  refine codeAny_mono (F _ inB (ns' names) tabs [] s₁ H ⟨[.ref a], []⟩ [.ref a] [.ref a] _ _ e0 (bind s₁ (.ref a)) (.cons rfl .nil) (want H (fun p hp => told.tabs _ (in_ p hp)) told.seq)) fun r s' got => ?_
  match r, got with
  | .error e, got => exact False.elim got
  | .ok .next, got => exact False.elim got
  | .ok .brk, got => exact False.elim got
  | .ok .cont, got => exact False.elim got
  | .ok (.ret u), ⟨v, H', os, bare, un, hok', rv, q⟩ =>
    obtain rfl : v = .bl true := q
    obtain rfl : u = Value.bool true := rv
    have grew : ∀ p ∈ cs, ∃ more : Array Value, s'.heap.get? p.2 = some { cls := .none, data := .fields more } := fun p hp =>
      let ⟨more, z⟩ := un.tbls p.2 #[] (told.tabs _ (in_ p hp)); ⟨_, hok' p.2 _ z⟩
    have same : ∀ b o, b ∉ cs.map (·.2) → s₁.heap.get? b = some o → s'.heap.get? b = some o := fun b o n g => by
      rcases told.only b n with z | ⟨ob, xs, z⟩
      · exact un.keep b o g z (fun m => absurd (show b ∈ ([] : List Addr) from m) List.not_mem_nil) List.not_mem_nil
      · obtain ⟨e1, _⟩ := told.hok b _ z
        obtain ⟨e2, _⟩ := hok' b _ (un.frzs b ob _ z)
        rw [g] at e1
        cases e1
        exact e2
    refine ⟨rfl, ⟨fun b o g => ?_, fun b o g => ?_⟩, os, bare⟩
    · by_cases m : b ∈ cs.map (·.2)
      · obtain ⟨p, hp, rfl⟩ := List.mem_map.mp m
        obtain ⟨more, gm⟩ := grew p hp
        have hc := PySem.W.codeHd_of_K inK (hd p hp)
        obtain rfl : tab0 = o := Option.some.inj ((tb p hp).symm.trans g)
        exact .inr (.inl ⟨(hc.tab g).isCodeTable, rfl, #[], more, rfl, by rw [gm]; congr; exact (Array.empty_append).symm⟩)
      · exact .inl (same b o m g)
    · by_cases m : b ∈ cs.map (·.2)
      · obtain ⟨p, hp, rfl⟩ := List.mem_map.mp m
        obtain ⟨more, gm⟩ := grew p hp
        exact ⟨_, gm⟩
      · exact ⟨o, same b o m g⟩
def LawTop (l : PySem.W.OpenLaw) (w : World) (K : PySem.W.Frag) (x : Str) (mg : Str → Option Value) (fa : Addr) (h : Heap) : Prop :=
  ∃ (fd : FuncData) (cs : List (Addr × Addr)) (sp : Sp), (∀ p ∈ cs, h.get? p.2 = some tab0) ∧ (∀ p ∈ cs, K.lookup p.2 = none) ∧ (∀ p ∈ cs, PySem.W.codeHdIn K p.1 p.2 = true) ∧ (∀ (s : Shared) (u : Value), BindsTo s fd ⟨[u], []⟩ [(x, u)]) ∧
    (∀ (H : Hp) (a : Addr) (ns : List Int), ns.length ≤ 63 → (∀ p ∈ cs, H p.2 = some (.tbl #[])) → SqL K H a (ns.map V.int) → sp [.ref a] H (fun v _ => v = .bl true) fun _ _ _ => False) ∧
    ∀ base : Heap, K.In base → base.Ns mainGlobals mg → (∀ p ∈ cs, TabB base mg p.1 p.2) → RunAt l.prog w K mg base callerA fa fd [x] sp
theorem walk_tabs {l : PySem.W.OpenLaw} {q : Program} {loose : List Str} {XP : (Str → Option Value) → Heap → Prop} {YP : World → Heap → Prop} {d : DefRec} {K : Params → PySem.W.Frag} {x : Str} (many : l.most = some 63) (plain : d.params.defaults = []) (inK : ∀ (w : World) (h : Heap), YP w h → (K w.params).In h)
    (F : ∀ (w : World) (mg : Str → Option Value) (fa : Addr) (h : Heap), YP w h → (K w.params).In h → h.Ns mainGlobals mg → mg d.name = some (.ref fa) → LawTop l w (K w.params) x mg fa h) :
    PySem.W.WalkO q loose XP YP l.row.toRowW d [] (fun f vs => PySem.call f vs) :=
  Att.attach_callB many plain fun w s₀ s₁ mg mb fa o pm cd doc a vs ns G Y ho hd hcd hmg hobj hints hlen _ hg => by
    obtain ⟨fd, cs, sp, h1, h2, h3, h4, h5, h6⟩ := F w mg fa _ Y (inK w _ Y) G.T.g hmg
    exact top_tabs (inK w _ Y) G.T.g G.T.b G.T.builtins G.T.nolimit hg hobj hints (Nat.le_trans hlen (by decide)) h1 h2 h3 G.T.bmain h6 h4 fun H tb seq => h5 H a ns hlen tb seq
end KD
set_option Elab.async false
set_option linter.all false
set_option maxRecDepth 100000
set_option maxHeartbeats 4000000
namespace KErr
open PySem PySem.Spec PyProof.Rows L2 Evl
/-! ### a caught error that a name keeps -/
/-- at a stands the object oe -/
def errO (a : Addr) (oe : Obj) : HO := .ext fun h => h.get? a = some oe
/-- at a stands an error of the class D, its dict at dd with the fields fs -/
def ErrAt (H : Hp) (a D dd : Addr) (fs : List (Str × V)) : Prop := ∃ oe : Obj, H a = some (errO a oe) ∧ oe.cls = .ref D ∧ oe.dict = some dd ∧ (∃ vs, oe.data = .fields vs) ∧ H dd = some (.xd fs)
theorem ErrAt.mono {H H' : Hp} {a D dd : Addr} {fs : List (Str × V)} (h : ErrAt H a D dd fs) (e : Ex H H') : ErrAt H' a D dd fs := let ⟨oe, h1, h2, h3, h4, h5⟩ := h; ⟨oe, e _ _ h1, h2, h3, h4, e _ _ h5⟩
section
variable {X : Cx} {a D dd : Addr} {pins : List (Addr × Obj)} {σ : L2.St} {H : Hp} {s : Shared} {e : Expr} {te : TE} {pos : Pos} {fs : List (Str × V)}
theorem ErrAt.inst (I : Inv X pins σ H s) (h : ErrAt H a D dd fs) : ∃ oe od mA, PySem.W.InstAt s.heap a oe D (some od) ∧ s.heap.get? dd = some od ∧ s.heap.Ns1 dd mA ∧ ∀ f, RelO (fs.lookup f) (mA f) := by
  obtain ⟨oe, ha, hc, hd, ⟨vs, hv⟩, hx⟩ := h
  have at_ : s.heap.get? a = some oe := (show ObjOk X.prog X.w H s.heap a (errO a oe) from I.hok a _ ha).1
  obtain ⟨mA, ns, rel⟩ := (show ObjOk X.prog X.w H s.heap dd (.xd fs) from I.hok dd _ hx)
  obtain ⟨od, ho, _⟩ := lookIn_ns ns
  exact ⟨oe, od, mA, ⟨at_, hc, by unfold PySem.W.notCls; rw [hv] <;> rfl, by rw [hd]; exact ho⟩, ho, ns, rel⟩
/-- isinstance(error, class) -/
def rIsE (K : PySem.W.Frag) (D : Addr) : List V → Hp → VK → Prop := fun xs H Q => ∃ (a dd : Addr) (fs : List (Str × V)) (c : V) (cv : Value) (b : Bool), xs = [.ref a, c] ∧ (∀ u, RelV c u → u = cv) ∧ ErrAt H a D dd fs ∧ PySem.W.kitOne K (.ref D) cv = some b ∧ Q (.bl b) H
theorem call_isE (C : ExcC X.K D) (hcl : (PySem.W.clsIn X.K D).isSome = true) : CallR X (.builtin "isinstance") (rIsE X.K D) := by
  intro pins s σ H xs us Q I r h
  obtain ⟨a, dd, fs, c, cv, b, rfl, hcv, hE, e, q⟩ := h
  match us, r with
  | [_, _], .cons rx (.cons rt .nil) =>
    obtain rfl := (show _ = Value.ref a from rx)
    obtain rfl := hcv _ rt
    obtain ⟨oe, od, mA, J, _⟩ := hE.inst I
    exact PySem.W.kia_one (PySem.W.kitx_exc hcl C.hg C.hk C.hs C.ha C.hn C.ht C.hm) I.kIn J e (fun z => nomatch z) fun tk => ⟨.bl b, H, I.kept (t' := tk) fun _ _ z => z, rfl, q⟩
/-- error.field -/
def tErrF (D : Addr) (f : Str) (te : TE) : TE := fun σ H Q => te σ H fun x H1 => ∃ (a dd : Addr) (fs : List (Str × V)) (v : V), x = .ref a ∧ ErrAt H1 a D dd fs ∧ fs.lookup f = some v ∧ Q v H1
theorem pe_errF {f : Str} (C : ExcC X.K D) (no : PySem.W.findIn X.K (.ref D) f = some none) (he : PE X e te) (hb : attributeBase e f X.env (eval e X.env) = eval e X.env := by rfl) : PE X (.Attribute e f pos) (tErrF D f te) where
  run := fun pins s σ H Q I h => by
    refine attr_of hb (thn (he.run pins s σ H _ I h) fun u s1 got => ?_)
    obtain ⟨x, H1, I1, rx, a, dd, fs, v, rfl, hE, l, q⟩ := got
    obtain rfl : u = Value.ref a := rx
    obtain ⟨oe, od, mA, J, ho, ns, rel⟩ := hE.inst I1
    obtain ⟨od', ho', looks⟩ := lookIn_ns ns
    obtain rfl : od = od' := Option.some.inj (ho.symm.trans ho')
    obtain ⟨w', hw, rw'⟩ := RelO.some_of (v := v) (o := mA f) (by rw [← l]; exact rel f)
    exact HandSPX.exc_get I1.kIn J C.hg C.hk C.hs (PySem.W.findObj_own C.hd no rfl (by rw [looks, hw])) (handed_of rw') ⟨v, H1, I1.tok _, rw', q⟩
end
/-- an object that nothing knew is known from now on -/
theorem inv_track {X : Cx} {pins : List (Addr × Obj)} {σ : L2.St} {H : Hp} {s : Shared} {a : Addr} {oe : Obj} (I : Inv X pins σ H s) (ha : s.heap.get? a = some oe) (na : H a = none) (n0 : X.s_0.heap.get? a = none) (np : ∀ p ∈ X.pn ++ pins, p.1 ≠ a) (nl : X.env.locals ≠ a) (nc : ∀ x c, X.env.cells.lookup x = some c → c ≠ a) : Inv X pins σ (upd H a (errO a oe)) s where
  ok := I.ok
  os := I.os
  bare := I.bare
  base := {
    keep := I.base.keep
    slot := I.base.slot
    free := fun b o g n x => by
      have ne : b ≠ a := fun z => by rw [z, n0] at g; cases g
      rw [upd_ne ne]
      exact I.base.free b o g n x
    there := I.base.there
    tups := fun b xs q => by
      have t := I.base.tups b xs q
      rw [upd_ne (ne_of_none t na)]
      exact t
    frzs := fun b o u q => by
      have t := I.base.frzs b o u q
      rw [upd_ne (ne_of_none t na)]
      exact t
    tbls := fun b ps q => by
      obtain ⟨more, t⟩ := I.base.tbls b ps q
      exact ⟨more, by rw [upd_ne (ne_of_none t na)]; exact t⟩ }
  loc := I.loc
  cell := I.cell
  free := by rw [upd_ne nl]; exact I.free
  freeC := fun x c l => by rw [upd_ne (nc x c l)]; exact I.freeC x c l
  pin := fun p m => by
    obtain ⟨h1, h2, h3⟩ := I.pin p m
    exact ⟨h1, by rw [upd_ne (np p m)]; exact h2, h3⟩
  hok := fun b u q => by
    by_cases e : b = a
    · subst e
      rw [upd_same] at q
      cases q
      exact ⟨ha, ⟨oe, ha⟩, fun h1 h2 p k => k _ p⟩
    · rw [upd_ne e] at q
      exact (I.hok b u q).stay (fun _ _ _ z => z) (fun c z => by rw [upd_ne (ne_of_none z na)]; exact z) (fun c xs z => by rw [upd_ne (ne_of_none z na)]; exact z)
  len := I.len
end KErr
set_option Elab.async false
set_option linter.all false
set_option maxRecDepth 100000
set_option maxHeartbeats 4000000
namespace KErr
open PySem PySem.Spec PyProof.Rows L2 Evl
/-- as wAs, but the error is known behind the suite -/
def wKeep (K : PySem.W.Frag) (c : Value) (i : Nat) (ts : Addr → Value → Option Addr → TS) (D : Ends) : WX := fun cls d σ H =>
  PySem.W.exmOne K cls c = some true ∧ ∀ (a : Addr) (oe : Obj), H a = none → Zc cls d oe → (∃ vs, oe.data = .fields vs) →
    ts a cls d { nx := fun σ' H' => D.nx (σ'.set i none) (upd H' a (errO a oe)), rt := fun _ _ => False, bk := fun _ _ => False, ct := fun _ _ => False } (σ.set i (some (.ref a))) H
section
variable {X : Cx} {x n : Str} {c : Value} {i : Nat} {body rest : List Stmt} {st₀ : Stmt} {np q1 q2 : Pos} {tb : WX → TS} {ts : Addr → Value → Option Addr → TS}
theorem ps_try_keep (stk : X.stack = X.env :: X.outer) (frm : X.env.frame = some X.env.locals) (noex : X.ex = []) (nd : X.N.Nodup) (hi : X.N[i]? = some n) (loc : X.env.kindOf n = some .local) (nms : Names X x c)
    (bodyOk : ∀ (W : WX) (pn : List (Addr × Obj)) (xe : Value → Shared → Prop), Takes (X.tr pn xe) W → PassesOwn (model X.prog X.w) X.A X.env xe → PSs (X.tr pn xe) body (tb W))
    (suiteOk : ∀ (a : Addr) (oe : Obj) (cls : Value) (d : Option Addr) (pn : List (Addr × Obj)), Zc cls d oe → (∃ vs, oe.data = .fields vs) → PSs (X.suite a ((a, oe) :: pn)) (st₀ :: rest) (ts a cls d)) :
    PS X (.Try body [.ExceptHandler (some (.Name x np)) (some n) (st₀ :: rest) q1] [] [] q2) (fun D σ H => tb (wKeep X.K c i ts D) D σ H) := by
  refine ⟨fun pins s σ H D I told => ?_⟩
  have fine := I.ok
  have frames : X.A.frames = some (X.env :: X.outer) := by rw [fine.frames, stk]
  have there : Loc X.env.scope n := .inl loc
  refine wpAny_Try_except ?_
  let catch_ : Value → Shared → Prop := fun u s₁ => wpAny (model X.prog X.w) X.A (noteFrame u X.env) (fun _ s₂ => wpAny (model X.prog X.w) X.A (setFlight u none) (fun _ s₃ =>
      wpAny (model X.prog X.w) X.A (handleBy u X.env [.ExceptHandler (some (.Name x np)) (some n) (st₀ :: rest) q1]) (SP X pins D) X.xe s₃) X.xe s₂) X.xe s₁
  refine wpAny_mono ((bodyOk (wKeep X.K c i ts D) (X.pn ++ pins) catch_ (fun u t air => ?_) PassesOwn.looking).run [] s σ H D (I.toTry _) told) (fun fl t done => ?_) (fun _ _ z => z)
  · obtain ⟨a, B, t0, _, τ, G, cls, d, rfl, J', ground, up1, sky, na, os, ag, yes, act⟩ := air
    have J : Inv X pins τ G t0 := J'.ofTry fine
    have sky2 : Sky B (X.env :: X.outer) a (Zc cls d) X.env.locals t.heap := by rw [← stk]; exact sky
    show wpAny _ X.A (noteFrame (.ref a) X.env) _ _ t
    refine Sky.land Zc.steady frames frm sky2 fun g3 fly3 up3 => ?_
    have J3 : Inv X pins τ G { t with heap := g3 } := J.landed ground fly3.1 (up1.trans up3) os ag
    obtain ⟨e3, w3, get3, z3, dat3⟩ := fly3.there
    have off : a ∉ frs (X.env :: X.outer) := fun m => by
      obtain ⟨_, ob, g, no⟩ := fly3.2.2.1.mem m
      rw [get3] at g
      cases g
      exact no _ dat3
    have off1 : a ≠ X.env.locals := fun z => off (List.mem_filterMap.mpr ⟨X.env, List.mem_cons_self, by rw [frm, z]⟩)
    have off2 : a ∉ X.fs := fun m => by
      obtain ⟨v, hv, z⟩ := List.mem_filterMap.mp m
      exact off (List.mem_filterMap.mpr ⟨v, List.mem_cons_of_mem _ hv, z⟩)
    -- what stood ahead of the error is not the error
    have old : ∀ b o, t0.heap.get? b = some o → b ∉ frs X.stack → b ≠ a := fun b o g nf z => by
      have g2 := ground b o g nf
      rw [z, fly3.2.1] at g2
      cases g2
    have young : X.s_0.heap.get? a = none := by
      cases h0 : X.s_0.heap.get? a with
      | none => rfl
      | some o =>
        obtain ⟨o', g⟩ := J.base.there a o h0 (by rw [noex]; exact List.not_mem_nil)
        exact absurd rfl (old a o' g (by rw [stk]; exact off))
    have S3 := J3.suite get3 dat3 na off1 off2
    refine wpAny_handleBy_cons (codeAny_handlers_test ?_) (fun z => nomatch z)
    have kind : PySem.W.Looks (model X.prog X.w) g3 (typeOf (.ref a)) cls := fun A Q E s k q => wpAny_typeOf_ref (k _ _ get3) (by rw [z3.1]; exact q)
    have met := PySem.W.exm_one (M := model X.prog X.w) J3.kIn kind yes
    have named : ∀ {Q : Value → Shared → Prop} {E : Value → Shared → Prop}, Q c { t with heap := g3 } → wpAny (model X.prog X.w) (X.A.mark (some (.ref a))) (eval (.Name x np) X.env) Q E { t with heap := g3 } := fun q => by
      obtain ⟨hg, nodb, h | ⟨h, boot, nn⟩⟩ := nms
      · exact ld_glob (X := X.suite a ((a, e3) :: (X.pn ++ pins))) S3 hg h q nodb
      · exact ld_blt (X := X.suite a ((a, e3) :: (X.pn ++ pins))) S3 hg h boot q nn nodb
    refine named (met.here (codeAny_handlers_suite_as (HandSPX.lands_againZ fly3 fun g4 fly4 up4 => ?_)))
    have J4 : Inv X pins τ G { t with heap := g4 } := J.landed ground fly4.1 ((up1.trans up3).trans up4) os ag
    obtain ⟨e4, w4, get4, z4, dat4⟩ := fly4.there
    refine store_ok (X := X.suite a ((a, e4) :: (X.pn ++ pins))) (v := .ref a) (J4.suite get4 dat4 na off1 off2) nd hi there rfl (fun t5 S5 => ?_) (.inr loc)
    refine wpAny_mono ((suiteOk a e4 cls d (X.pn ++ pins) z4 ⟨_, dat4⟩).run [] t5 _ G _ S5 (act a e4 na z4 ⟨_, dat4⟩)) (fun fl t6 done => ?_) (fun _ _ z => False.elim z)
    match fl, done with
    | .next, ⟨τ6, G6, S6, q6⟩ =>
      refine gone_ok (X := X.suite a ((a, e4) :: (X.pn ++ pins))) S6 nd hi loc fun t7 S7 => ⟨_, _, inv_track (S7.unsuite fine) (S7.pin (a, e4) (List.mem_append_left _ List.mem_cons_self)).1 (S7.pin (a, e4) (List.mem_append_left _ List.mem_cons_self)).2.1 young (fun p m => ?_) (Ne.symm off1) (fun y b l z => ?_), q6⟩
      · obtain ⟨g, _, n1, n2, _⟩ := J.pin p m
        refine old p.1 p.2 g fun m2 => ?_
        rw [stk] at m2
        obtain ⟨v, hv, z⟩ := List.mem_filterMap.mp m2
        rcases List.mem_cons.mp hv with rfl | hv
        · rw [frm] at z
          exact n1 (Option.some.inj z).symm
        · exact n2 (List.mem_filterMap.mpr ⟨v, hv, z⟩)
      · obtain ⟨v, ob, g, dv⟩ := S7.cell y b l
        have g2 := (S7.pin (a, e4) (List.mem_append_left _ List.mem_cons_self)).1
        rw [z, g2] at g
        cases g
        rw [dat4] at dv
        cases dv
    | .brk, ⟨_, _, _, q6⟩ => exact False.elim q6
    | .cont, ⟨_, _, _, q6⟩ => exact False.elim q6
    | .ret _, ⟨_, _, _, _, _, q6⟩ => exact False.elim q6
  · match fl, done with
    | .next, ⟨τ, G, J, q⟩ => exact wpAny_execs_nil ⟨τ, G, J.ofTry fine, q⟩
    | .brk, ⟨τ, G, J, q⟩ => exact ⟨τ, G, J.ofTry fine, q⟩
    | .cont, ⟨τ, G, J, q⟩ => exact ⟨τ, G, J.ofTry fine, q⟩
    | .ret _, ⟨v, τ, G, J, r, q⟩ => exact ⟨v, τ, G, J.ofTry fine, r, q⟩
end
end KErr
set_option Elab.async false
set_option linter.all false
set_option maxRecDepth 100000
set_option maxHeartbeats 4000000
namespace KF
/-! ### the mathematics of a beat: L comings ahead, then again and again P of them -/
def place (L P i : Nat) : Nat := if i < L then i else L + (i - L) % P
def goesB (L P : Nat) (as : List Bool) (i : Nat) : Bool := as.getD (place L P i) false
def upTo (f : Nat → Bool) (c : Nat) : Nat := ((List.range c).filter f).length
def thr (L P : Nat) (as : List Bool) (c : Nat) : Nat := upTo (goesB L P as) c
def tot (L P : Nat) (as : List Bool) : Nat := thr L P as (L + P)
def cnt (as : List Bool) : Nat := (as.filter id).length
def each (L : Nat) (as : List Bool) : Nat := cnt (as.drop L)
theorem upTo_succ (f : Nat → Bool) (c : Nat) : upTo f (c + 1) = upTo f c + (if f c = true then 1 else 0) := by
  unfold upTo
  rw [List.range_succ, List.filter_append, List.length_append, List.filter_cons]
  split <;> rfl
theorem upTo_mono (f : Nat → Bool) {c d : Nat} (h : c ≤ d) : upTo f c ≤ upTo f d := by
  induction h with
  | refl => exact Nat.le_refl _
  | step _ ih =>
    rw [upTo_succ]
    omega
theorem upTo_le (f : Nat → Bool) (c : Nat) : upTo f c ≤ c := by
  have h := List.length_filter_le f (List.range c)
  rw [List.length_range] at h
  exact h
theorem upTo_inj (f : Nat → Bool) {c d : Nat} (hc : f c = true) (hd : f d = true) (h : upTo f (c + 1) = upTo f (d + 1)) : c = d := by
  have sc := upTo_succ f c
  have sd := upTo_succ f d
  rw [if_pos hc] at sc
  rw [if_pos hd] at sd
  rcases Nat.lt_trichotomy c d with l | e | l
  · have := upTo_mono f (show c + 1 ≤ d from l)
    omega
  · exact e
  · have := upTo_mono f (show d + 1 ≤ c from l)
    omega
theorem upTo_congr {f g : Nat → Bool} : ∀ {c : Nat}, (∀ i, i < c → f i = g i) → upTo f c = upTo g c
  | 0, _ => rfl
  | c + 1, h => by rw [upTo_succ, upTo_succ, upTo_congr (fun i hi => h i (Nat.lt_succ_of_lt hi)), h c (Nat.lt_succ_self c)]
theorem filter_get (f : Nat → Bool) : ∀ (n k c : Nat), ((List.range n).filter f)[k]? = some c → c < n ∧ f c = true ∧ upTo f c = k
  | 0, k, c, h => by simp at h
  | n + 1, k, c, h => by
    rw [List.range_succ, List.filter_append] at h
    by_cases hk : k < ((List.range n).filter f).length
    · rw [List.getElem?_append_left hk] at h
      obtain ⟨h1, h2, h3⟩ := filter_get f n k c h
      exact ⟨Nat.lt_succ_of_lt h1, h2, h3⟩
    · rw [List.getElem?_append_right (Nat.le_of_not_lt hk), List.filter_cons] at h
      split at h
      · rename_i hf
        have e : k - ((List.range n).filter f).length = 0 := by
          have := (List.getElem?_eq_some_iff.mp h).1
          simp at this
          omega
        rw [e] at h
        obtain rfl : n = c := by simpa using h
        exact ⟨Nat.lt_succ_self _, hf, by unfold upTo; omega⟩
      · simp at h
theorem place_low {L P i : Nat} (h : i < L + P) : place L P i = i := by
  unfold place
  split
  · rfl
  · rw [Nat.mod_eq_of_lt (by omega)]
    omega
theorem place_lt {L P : Nat} (hP : 0 < P) (i : Nat) : place L P i < L + P := by
  unfold place
  split
  · omega
  · have := Nat.mod_lt (i - L) hP
    omega
theorem place_per {L P i : Nat} (h : L ≤ i) : place L P (i + P) = place L P i := by
  unfold place
  rw [if_neg (by omega), if_neg (by omega), show i + P - L = i - L + P by omega, Nat.add_mod_right]
section
variable {L P : Nat} {as : List Bool}
theorem goes_per {i : Nat} (h : L ≤ i) : goesB L P as (i + P) = goesB L P as i := by
  unfold goesB
  rw [place_per h]
theorem goes_many {i : Nat} (h : L ≤ i) : ∀ t, goesB L P as (i + t * P) = goesB L P as i
  | 0 => by rw [Nat.zero_mul, Nat.add_zero]
  | t + 1 => by rw [show i + (t + 1) * P = i + t * P + P by rw [Nat.succ_mul]; omega, goes_per (by omega), goes_many h t]
theorem goes_low {i : Nat} (h : i < L + P) : goesB L P as i = as.getD i false := by
  unfold goesB
  rw [place_low h]
theorem thr_low {c : Nat} (h : c ≤ L + P) : thr L P as c = upTo (fun i => as.getD i false) c := upTo_congr fun i hi => goes_low (by omega)
theorem upTo_take (as : List Bool) : ∀ c, c ≤ as.length → upTo (fun i => as.getD i false) c = cnt (as.take c)
  | 0, _ => by simp [upTo, cnt]
  | c + 1, h => by
    have hc : c < as.length := h
    rw [upTo_succ, upTo_take as c (by omega), List.take_succ, List.getElem?_eq_getElem hc]
    unfold cnt
    rw [List.filter_append, List.length_append, List.getD_eq_getElem?_getD, List.getElem?_eq_getElem hc]
    show _ = _ + (List.filter id [as[c]]).length
    rw [List.filter_cons]
    show _ + (if as[c] = true then 1 else 0) = _ + (if as[c] = true then _ else _ : List Bool).length
    split <;> rfl
theorem thr_take (hl : as.length = L + P) {c : Nat} (h : c ≤ L + P) : thr L P as c = cnt (as.take c) := by
  rw [thr_low h, upTo_take as c (by omega)]
theorem cnt_app (xs ys : List Bool) : cnt (xs ++ ys) = cnt xs + cnt ys := by
  unfold cnt
  rw [List.filter_append, List.length_append]
theorem tot_is (hl : as.length = L + P) : tot L P as = thr L P as L + each L as := by
  unfold tot each
  rw [thr_take hl (Nat.le_refl _), thr_take hl (by omega), List.take_of_length_le (by omega), ← cnt_app, List.take_append_drop]
theorem thr_per (hl : as.length = L + P) {c : Nat} (h : L ≤ c) : thr L P as (c + P) = thr L P as c + each L as := by
  induction h with
  | refl => exact tot_is hl
  | @step m hm ih =>
    have hm : L ≤ m := hm
    have e1 := upTo_succ (goesB L P as) m
    have e2 := upTo_succ (goesB L P as) (m + P)
    rw [goes_per hm] at e2
    show upTo (goesB L P as) (m + 1 + P) = upTo (goesB L P as) (m + 1) + each L as
    have ih : upTo (goesB L P as) (m + P) = upTo (goesB L P as) m + each L as := ih
    rw [show m + 1 + P = m + P + 1 by omega, e2, e1, ih]
    omega
theorem thr_many (hl : as.length = L + P) {c : Nat} (h : L ≤ c) : ∀ t, thr L P as (c + t * P) = thr L P as c + t * each L as
  | 0 => by rw [Nat.zero_mul, Nat.zero_mul, Nat.add_zero, Nat.add_zero]
  | t + 1 => by
    rw [show c + (t + 1) * P = c + t * P + P by rw [Nat.succ_mul]; omega, thr_per hl (by omega), thr_many hl h t, Nat.succ_mul]
    omega
theorem thr_far (hl : as.length = L + P) {r : Nat} (hr : r ≤ P) (t : Nat) : thr L P as (L + r + t * P) = cnt (as.take L) + t * cnt (as.drop L) + cnt ((as.drop L).take r) := by
  rw [thr_many hl (by omega), thr_take hl (by omega), List.take_add, cnt_app]
  unfold each
  omega
theorem thr_all (hP : 0 < P) (hl : as.length = L + P) (h0 : each L as = 0) (c : Nat) : thr L P as c ≤ tot L P as := by
  by_cases h : c ≤ L + P
  · exact upTo_mono _ h
  · have e : c = (L + (c - L) % P) + (c - L) / P * P := by
      have := Nat.mod_add_div (c - L) P
      rw [Nat.mul_comm] at this
      omega
    have := Nat.mod_lt (c - L) hP
    rw [e, thr_many hl (by omega), h0, Nat.mul_zero, Nat.add_zero]
    exact upTo_mono _ (by omega)
/-- the comings of the list that go on -/
def goL (n : Nat) (as : List Bool) : List Nat := (List.range n).filter fun i => as.getD i false
theorem goL_len (L P : Nat) (as : List Bool) : (goL (L + P) as).length = tot L P as := (thr_low (Nat.le_refl _)).symm
theorem goL_get {k c : Nat} (h : (goL (L + P) as)[k]? = some c) : c < L + P ∧ goesB L P as c = true ∧ thr L P as c = k := by
  obtain ⟨h1, h2, h3⟩ := filter_get _ _ _ _ h
  exact ⟨h1, by rw [goes_low h1]; exact h2, by rw [thr_low (Nat.le_of_lt h1)]; exact h3⟩
theorem goL_side {k c : Nat} (h : (goL (L + P) as)[k]? = some c) : (L < c + 1) ↔ thr L P as L ≤ k := by
  obtain ⟨h1, h2, h3⟩ := goL_get h
  constructor
  · intro hc
    rw [← h3]
    exact upTo_mono _ (by omega)
  · intro hk
    refine Nat.lt_succ_of_le (Nat.le_of_not_lt fun lt => ?_)
    have := upTo_mono (goesB L P as) (show c + 1 ≤ L from lt)
    rw [upTo_succ, if_pos h2] at this
    have h3 : upTo (goesB L P as) c = k := h3
    have hk : upTo (goesB L P as) L ≤ k := hk
    omega
theorem from_get (g : Nat) : ∀ (n j : Nat), j < n - g → ((List.range n).filter fun i => decide (g ≤ i))[j]? = some (g + j)
  | 0, j, h => absurd h (by omega)
  | n + 1, j, h => by
    have len : ∀ n, ((List.range n).filter fun i => decide (g ≤ i)).length = n - g := fun n => by
      induction n with
      | zero => simp
      | succ n ih =>
        rw [List.range_succ, List.filter_append, List.length_append, ih, List.filter_cons]
        by_cases hg : g ≤ n
        · rw [if_pos (by simpa using hg)]
          simp
          omega
        · rw [if_neg (by simpa using hg)]
          simp
          omega
    rw [List.range_succ, List.filter_append]
    by_cases hj : j < n - g
    · rw [List.getElem?_append_left (by rw [len]; exact hj)]
      exact from_get g n j hj
    · rw [List.getElem?_append_right (by rw [len]; omega), len, List.filter_cons, if_pos (by simp; omega)]
      have e : j - (n - g) = 0 := by omega
      rw [e]
      simp
      omega
theorem from_len (g : Nat) (n : Nat) : ((List.range n).filter fun i => decide (g ≤ i)).length = n - g := by
  induction n with
  | zero => simp
  | succ n ih =>
    rw [List.range_succ, List.filter_append, List.length_append, ih, List.filter_cons]
    by_cases hg : g ≤ n
    · rw [if_pos (by simpa using hg)]
      simp
      omega
    · rw [if_neg (by simpa using hg)]
      simp
      omega
/-- the k-th coming that goes on, behind the first ones -/
theorem far_get (hP : 0 < P) (hl : as.length = L + P) (he : 0 < each L as) {k : Nat} (hk : tot L P as < k) : ∃ c0, (goL (L + P) as)[thr L P as L + (k - 1 - thr L P as L) % each L as]? = some c0 ∧
    goesB L P as (c0 + (k - 1 - thr L P as L) / each L as * P) = true ∧ thr L P as (c0 + (k - 1 - thr L P as L) / each L as * P + 1) = k := by
  have ht := tot_is hl
  have hm := Nat.mod_lt (k - 1 - thr L P as L) he
  have hd := Nat.mod_add_div (k - 1 - thr L P as L) (each L as)
  rw [Nat.mul_comm] at hd
  generalize hq : (k - 1 - thr L P as L) / each L as = q at hd
  generalize hr : (k - 1 - thr L P as L) % each L as = r at hm hd
  have hlt : thr L P as L + r < (goL (L + P) as).length := by rw [goL_len]; omega
  refine ⟨(goL (L + P) as)[thr L P as L + r], by simp [hlt], ?_⟩
  have hg : (goL (L + P) as)[thr L P as L + r]? = some (goL (L + P) as)[thr L P as L + r] := by simp [hlt]
  have hs := (goL_side hg).mpr (by omega)
  obtain ⟨h1, h2, h3⟩ := goL_get hg
  generalize (goL (L + P) as)[thr L P as L + r] = c0 at hg hs h1 h2 h3
  have g1 : goesB L P as (c0 + q * P) = true := by rw [goes_many (by omega)]; exact h2
  refine ⟨g1, ?_⟩
  have s := upTo_succ (goesB L P as) (c0 + q * P)
  rw [if_pos g1] at s
  have m := thr_many (P := P) hl (show L ≤ c0 by omega) q
  have m : upTo (goesB L P as) (c0 + q * P) = upTo (goesB L P as) c0 + q * each L as := m
  have h3 : upTo (goesB L P as) c0 = thr L P as L + r := h3
  show upTo (goesB L P as) (c0 + q * P + 1) = k
  rw [s, m, h3]
  omega
end
end KF
set_option Elab.async false
set_option linter.all false
set_option maxRecDepth 100000
set_option maxHeartbeats 4000000
namespace KF
open PySem PySem.Spec PyProof.Rows L2 Evl
local macro_rules | `(tactic| walk_at "ev") => `(tactic| repeat' (first | exact ev_c | exact ev_var rfl | exact rv_I0 | refine' rv_I ?_ | refine' rv_eq ?_ | refine' rv_ne ?_ | refine' ev_op ?_ ?_ ?_ | exact ea_nil | refine' ea_cons ?_ ?_ | refine' et_test ?_ | refine' et_B ?_ | refine' et_not ?_ | refine' ev_notV ?_))

theorem all_nat {n : Nat} {p : Nat → Bool} (h : (List.range n).all p = true) : ∀ i, i < n → p i = true := fun i hi => List.all_eq_true.mp h i (List.mem_range.mpr hi)
def EvI (te : TE) (σ : L2.St) (H : Hp) (C : Addr) (fs : List (Str × V)) : Prop := ∀ H1, Ex H H1 → ∀ Q : VK, (∀ p dx H2, H1 p = none → Ex H1 H2 → H2 p = some (.ins C dx fs) → Q (.ref p) H2) → te σ H1 Q
def EvW (K : PySem.W.Frag) (te : TE) (σ : L2.St) (H : Hp) (xs : List V) : Prop := ∀ H1, Ex H H1 → ∀ Q : VK, (∀ p H2, Ex H1 H2 → SqT K H2 p xs → Q (.ref p) H2) → te σ H1 Q
section
variable {σ : L2.St} {K : PySem.W.Frag} {H H' : Hp} {tx te ta tb tv : TE} {u t : TT} {v x y z : V} {r : R2} {D : Ends} {tz : TS}
theorem ev_isi {ta : TA} {c : V} {t u : Value} {b : Bool} (ha : EvA ta σ H [x, c]) (k : ClsV c u) (ty : ∀ H', Ex H H' → TyX K H' x t) (e : PySem.W.kitOne K t u = some b) : Ev (tCB (rIsi K) ta) σ H (.bl b) := fun H1 e1 Q q =>
  ha H1 e1 _ fun H2 e2 => ⟨x, c, t, u, b, rfl, k, ty H2 (e1.trans e2), e, q H2 e2⟩
theorem ev_chain {r r' : R2} {tc : TE} {k1 k2 : Bool} {z : V} (ha : Ev ta σ H x) (hb : Ev tb σ H y) (h1 : RV r x y H (.bl k1)) (hc : k1 = true → Ev tc σ H z ∧ RV r' y z H (.bl k2)) : Ev (tChain r r' ta tb tc) σ H (.bl (k1 && k2)) := fun H1 e1 Q q =>
  ha H1 e1 _ fun H2 e2 => hb H2 (e1.trans e2) _ fun H3 e3 => h1 H3 ((e1.trans e2).trans e3) _ fun H4 e4 => ⟨k1, rfl, by
    cases k1 with
    | true =>
      obtain ⟨h3, h4⟩ := hc rfl
      exact h3 H4 (((e1.trans e2).trans e3).trans e4) _ fun H5 e5 => h4 H5 ((((e1.trans e2).trans e3).trans e4).trans e5) _ fun H6 e6 => q H6 ((((e2.trans e3).trans e4).trans e5).trans e6)
    | false => exact q H4 ((e2.trans e3).trans e4)⟩
theorem ev_cval {ta : TE} {C : Addr} {mc : Value} {f : Str} {u : Value} (h : Ev ta σ H (.ref C)) (r : ClX.CRead K C mc) (k : ClX.CVal K C mc f v u) : Ev (ClX.tCVal K ta f) σ H v := fun H1 e Q q => h H1 e _ fun H2 e2 => ⟨C, mc, v, u, rfl, r, k, q H2 e2⟩
theorem ev_prop {C a : Addr} {dx : Addr} {fs : List (Str × V)} {sp : Sp} {E : XK} (h : Ev ta σ H (.ref a)) (ho : H a = some (.ins C dx fs)) (hs : SpV sp [.ref a] H v) : Ev (tProp C sp [] E ta) σ H v := fun H1 e Q q =>
  h H1 e _ fun H2 e2 => ⟨a, dx, fs, rfl, e2 _ _ (e _ _ ho), hs H2 (e.trans e2) Q (fun H3 e3 => q H3 (e2.trans e3)) E⟩
theorem ev_fld {C a : Addr} {dx : Addr} {fs : List (Str × V)} {f : Str} (h : Ev ta σ H (.ref a)) (ho : H a = some (.ins C dx fs)) (c : Cls K C) (n : NoAttr K C f) (l : fs.lookup f = some v) : Ev (tFld K ta f) σ H v := fun H1 e Q q =>
  h H1 e _ fun H2 e2 => ⟨a, C, dx, fs, v, rfl, e2 _ _ (e _ _ ho), c, n, l, q H2 e2⟩
theorem spv_get {C a : Addr} {dx : Addr} {fs : List (Str × V)} {f : Str} (ho : H a = some (.ins C dx fs)) (l : fs.lookup f = some v) : SpV (getSp C f) [.ref a] H v := fun H1 e Q q E => ⟨a, dx, fs, v, rfl, e _ _ ho, l, q H1 (Ex.refl _)⟩
end
section
variable {σ : L2.St} {K : PySem.W.Frag} {H H' : Hp} {tx te ta tb tv : TE} {u t : TT} {v x y z : V} {r : R2} {D : Ends} {tz : TS}
theorem el_lcS {s : Str} {tl' : TE} {j : Nat} {vs : List Nat} (f : Nat → Bool) (v : Nat → V) (h : Ev tl' σ H (.str s)) (hz : s.cps.size ≤ 40000) (hw : ∀ x, wipe ((wipe σ vs).set j (some x)) vs = wipe σ vs)
    (ht : ∀ (i : Nat) (c : Nat) H1, Ex H H1 → s.cps[i]? = some c → EvT t ((wipe σ vs).set j (some (.str ⟨#[c]⟩))) H1 (f i)) (he : ∀ (i : Nat) (c : Nat) H1, Ex H H1 → s.cps[i]? = some c → f i = true → Ev te ((wipe σ vs).set j (some (.str ⟨#[c]⟩))) H1 (v i)) :
    EvL (tLc (iStr tl') (gName j) t te vs) σ H (given s.cps.size f v) := fun H0 e Q q => h H0 e _ fun H1 e1 => ⟨s, rfl, fun Dl hD =>
  ⟨fun i m H' => m = s.cps.size - i ∧ i ≤ s.cps.size ∧ Cw H1 f v Dl i H', ⟨s.cps.size, by simp, Nat.zero_le _, hD, Ex.new hD, upd_same⟩, by
    rintro i m H' ⟨rfl, hi, p⟩
    by_cases hlt : i < s.cps.size
    · refine .inr ⟨hlt, Cw H1 f v Dl (i + 1), fun H2 p' => ⟨s.cps.size - (i + 1), by omega, rfl, hlt, p'⟩, ?_⟩
      rintro x H2 ⟨rfl, c, hc, rfl⟩
      exact ⟨hw _, cw_turn p (by omega) (ht i c H1 (e.trans e1) hc) (fun hf => he i c H1 (e.trans e1) hc hf)⟩
    · have e2 : i = s.cps.size := by omega
      subst e2
      exact .inl ⟨Nat.le_refl _, q Dl H' (fresh_back e1 p.1) (e1.trans p.2.1) p.2.2⟩⟩⟩
theorem el_lcT {a : Addr} {xs : List V} {tl : TE} {g : TG} {vs : List Nat} {σ' : V → L2.St} (f : Nat → Bool) (v : Nat → V) (h : Ev tl σ H (.ref a)) (hx : SqT K H a xs) (hz : xs.length ≤ 40000)
    (hg : ∀ (i : Nat) (x : V) H1 (Q : L2.St → Hp → Prop), Ex H H1 → xs[i]? = some x → Q (σ' x) H1 → g x (wipe σ vs) H1 Q) (hw : ∀ x, wipe (σ' x) vs = wipe σ vs)
    (ht : ∀ (i : Nat) (x : V) H1, Ex H H1 → xs[i]? = some x → EvT t (σ' x) H1 (f i)) (he : ∀ (i : Nat) (x : V) H1, Ex H H1 → xs[i]? = some x → f i = true → Ev te (σ' x) H1 (v i)) :
    EvL (tLc (iTup K tl) g t te vs) σ H (given xs.length f v) := fun H0 e Q q => h H0 e _ fun H1 e1 => ⟨a, rfl, ⟨xs, ex_t (e.trans e1) hx⟩, fun Dl hD =>
  lc_tup (xs := xs) (Cw H1 f v Dl) ⟨hD, Ex.new hD, upd_same⟩ (fun i H' _ p => ex_t ((e.trans e1).trans p.2.1) hx)
    (fun i x H' hi p => hg i x H' _ ((e.trans e1).trans p.2.1) hi ⟨hw x, cw_turn p (by have := (List.getElem?_eq_some_iff.mp hi).1; omega) (ht i x H1 (e.trans e1) hi) (fun hf => he i x H1 (e.trans e1) hi hf)⟩)
    (fun He cw => q Dl He (fresh_back e1 cw.1) (e1.trans cw.2.1) cw.2.2)⟩
theorem et_yes : EvT tYes σ H true := fun H1 _ _ q => q H1 (Ex.refl H1)
theorem eu_tuple {xs : List V} (h : EvL te σ H xs) : EvU (tCB (fun xs H Q => ∃ p ys, xs = [.ref p] ∧ ((SqL K H p ys ∧ ∀ l, H l = none → Q (.ref l) (upd H l (.tup ys))) ∨ (SqT K H p ys ∧ Q (.ref p) H))) (tCons te tNil)) σ H xs := fun H1 e Q q =>
  h H1 e _ fun p H2 _ e2 h2 => ⟨p, xs, rfl, .inl ⟨sq_of h2, fun l hl => q l _ (fresh_back e2 hl) (e2.trans (Ex.new hl)) upd_same⟩⟩
theorem ev_sum {ns : List Int} (h : EvL te σ H (ns.map V.int)) : Ev (tCB (rSum K) (tCons te tNil)) σ H (.int ns.sum) := fun H1 e Q q =>
  h H1 e _ fun p H2 _ e2 h2 => ⟨p, ns, rfl, sq_of h2, q H2 e2⟩
theorem el_is {xs ys : List V} (h : EvL te σ H xs) (e : xs = ys) : EvL te σ H ys := e ▸ h
theorem eu_is {xs ys : List V} (h : EvU te σ H xs) (e : xs = ys) : EvU te σ H ys := e ▸ h
end
section
variable {σ : L2.St} {K : PySem.W.Frag} {H H' : Hp} {tx te ta tb tv : TE} {u t : TT} {v x y z : V} {r : R2} {D : Ends} {tz : TS}
theorem q_asgTV {p : Addr} {xs : List V} {n : Nat} {tgs : TGs} (h : Ev te σ H (.ref p)) (hx : SqT K H p xs) (hl : xs.length = n) (k : ∀ H1, Ex H H1 → tgs xs σ H1 (tz D)) : tSeq (tAsg te (gTup K n tgs)) tz D σ H :=
  h H (Ex.refl _) _ fun H1 e => ⟨p, xs, rfl, ex_t e hx, hl, k H1 e⟩
end
theorem given_all {n : Nat} {v : Nat → V} : given n (fun _ => true) v = (List.range n).map v := by
  unfold given
  rw [List.filter_eq_self.mpr fun _ _ => rfl]
theorem pe_fldE {X : Cx} {K : PySem.W.Frag} {e : Expr} {ta : TE} {f : Str} {pos : Pos} (he : PE X e ta) (hb : attributeBase e f X.env (eval e X.env) = eval e X.env) (hK : X.K = K := by rfl) : PE X (.Attribute e f pos) (tFld K ta f) := by
  subst hK
  exact pe_fld he hb
section
variable {σ : L2.St} {K : PySem.W.Frag} {H H' : Hp} {tx te ta tb tv : TE} {u t : TT} {v x y z : V} {r : R2} {D : Ends} {tz : TS}
def ExB (p : Addr) (H H' : Hp) : Prop := ∀ b o, H b = some o → b ≠ p → H' b = some o
theorem ExB.refl (p : Addr) (H : Hp) : ExB p H H := fun _ _ h _ => h
theorem ExB.trans {p : Addr} {H H1 H2 : Hp} (a : ExB p H H1) (b : ExB p H1 H2) : ExB p H H2 := fun x o h n => b x o (a x o h n) n
theorem ExB.of {p : Addr} {H H' : Hp} (e : Ex H H') : ExB p H H' := fun x o h _ => e x o h
theorem q_fld {p C dx : Addr} {fs : List (Str × V)} {f : Str} (hv : Ev tv σ H y) (ha : Ev ta σ H (.ref p)) (hp : H p = some (.ins C dx fs)) (c : Cls K C) (n : NoAttr K C f) (hl : fs.length < 1000)
    (k : ∀ H1, ExB p H H1 → H1 p = some (.ins C dx (putF f y fs)) → tz D σ H1) : tSeq (sFld K ta tv f) tz D σ H :=
  hv H (Ex.refl _) _ fun H1 e1 => ha H1 e1 _ fun H2 e2 => ⟨p, C, dx, fs, rfl, e2 _ _ (e1 _ _ hp), c, n, hl, k _ (fun b o hb ne => by rw [upd_ne ne]; exact e2 _ _ (e1 _ _ hb)) upd_same⟩
end
section
variable {σ : L2.St} {K : PySem.W.Frag} {H H' : Hp} {tx te ta tb tv : TE} {u t : TT} {v x y z : V} {r : R2} {D : Ends} {tz : TS}
theorem el_sliceL {p : Addr} {xs : List V} {tl th : TO} {lo hi : Option Int} (h : Ev te σ H (.ref p)) (h1 : EvO tl σ H lo) (h2 : EvO th σ H hi) (hs : SqL K H p xs) : EvL (tSl (rSlL K) te tl th) σ H (cutV xs lo hi) := el_sl h h1 h2 hs
theorem el_listN {xs : List V} (h : EvL te σ H xs) : EvL (tCB (fun xs H Q => ∃ p ys, xs = [V.ref p] ∧ (SqL K H p ys ∨ SqT K H p ys) ∧ ∀ l, H l = none → Q (.ref l) (upd H l (.lst ys))) (tCons te tNil)) σ H xs := fun H1 e Q q =>
  h H1 e _ fun p H2 _ e2 h2 => ⟨p, xs, rfl, .inl (sq_of h2), fun l hl => q l _ (fresh_back e2 hl) (e2.trans (Ex.new hl)) upd_same⟩
theorem cut_ints (ns : List Int) (lo hi : Option Int) : ∃ ms : List Int, cutV (ns.map V.int) lo hi = ms.map V.int ∧ ms.length ≤ ns.length := by
  refine ⟨(ns.drop (HT.sIx ns.length 0 lo)).take (HT.sIx ns.length ns.length hi - HT.sIx ns.length 0 lo), ?_, ?_⟩
  · unfold cutV
    rw [List.length_map, List.map_take, List.map_drop]
  · rw [List.length_take, List.length_drop]
    omega
theorem ev_int {i : Int} (h : Ev te σ H (.int i)) : Ev (tCB (fun xs H Q => (∃ i, xs = [V.int i] ∧ Q (.int i) H) ∨ ∃ k, xs = [V.bl k] ∧ Q (.int (if k then 1 else 0)) H) (tCons te tNil)) σ H (.int i) := fun H1 e Q q => h H1 e _ fun H2 e2 => .inl ⟨i, rfl, q H2 e2⟩
theorem ev_intB {k : Bool} (h : Ev te σ H (.bl k)) : Ev (tCB (fun xs H Q => (∃ i, xs = [V.int i] ∧ Q (.int i) H) ∨ ∃ k, xs = [V.bl k] ∧ Q (.int (if k then 1 else 0)) H) (tCons te tNil)) σ H (.int (if k then 1 else 0)) := fun H1 e Q q => h H1 e _ fun H2 e2 => .inr ⟨k, rfl, q H2 e2⟩
theorem ev_lenS {p : Addr} {xs : List V} (ha : Ev ta σ H (.ref p)) (h : SqL K H p xs) : Ev (tCB (fun xs H Q => ∃ p ys, xs = [V.ref p] ∧ (SqL K H p ys ∨ SqT K H p ys) ∧ Q (.int (ys.length : Nat)) H) (tCons ta tNil)) σ H (.int (xs.length : Nat)) := ev_len ha h
theorem ev_abs {i : Int} (h : Ev te σ H (.int i)) : Ev (tCB (fun xs H Q => ∃ i, xs = [V.int i] ∧ Q (.int (if i < 0 then -i else i)) H) (tCons te tNil)) σ H (.int (if i < 0 then -i else i)) := fun H1 e Q q => h H1 e _ fun H2 e2 => ⟨i, rfl, q H2 e2⟩
end
theorem dp_ints {K : PySem.W.Frag} {H : Hp} : ∀ ns : List Int, DpAll K H (ns.map V.int) (ns.map PyData.int)
  | [] => .nil
  | n :: ns => .cons (.int n) (dp_ints ns)
theorem rv_neE {K : PySem.W.Frag} {H : Hp} {l q : Addr} {ns : List Int} (hl : H l = some (.lst (ns.map V.int))) (hq : H q = some (.lst [])) : RV (rNeD K) (.ref l) (.ref q) H (.bl (!PyData.eqv (.list (ns.map PyData.int)) (.list []))) := fun H1 e Q k =>
  ⟨.list (ns.map PyData.int), .list [], .lst (sq_of (e _ _ hl)) (dp_ints ns), .lst (sq_of (e _ _ hq)) .nil, PySem.W.ke_shaped_ints ns, PySem.W.ke_shaped_ints [], k H1 (Ex.refl H1)⟩
theorem eqv_nil (ns : List Int) : PyData.eqv (.list (ns.map PyData.int)) (.list []) = decide (ns = []) := by
  cases ns with
  | nil => simp [PyData.eqv, PyData.eqvAll]
  | cons n ns => simp [PyData.eqv, PyData.eqvAll]
theorem mul_bd {x y A B : Int} (h0 : 0 ≤ x) (h1 : x ≤ A) (h2 : 0 ≤ y) (h3 : y ≤ B) : 0 ≤ x * y ∧ x * y ≤ A * B :=
  ⟨Int.mul_nonneg h0 h2, Int.mul_le_mul h1 h3 h2 (Int.le_trans h0 h1)⟩
theorem s_retPen {te : TE} {σ : L2.St} {H : Hp} {D : Ends} {xs : List V} {x y : V} (h : EvL te σ H xs) (k : ∀ l p H1, H l = none → Ex H H1 → H1 l = some (.lst xs) → H1 p = none → D.rt (.ref p) (upd H1 p (.lst [.ref l, x, y]))) : tRet (tLst (tCons te (tCons (tC x) (tCons (tC y) tNil)))) D σ H :=
  h H (Ex.refl H) _ fun l H1 hl e1 h1 => ⟨by show 3 ≤ sizeLine; decide, fun p hp => k l p H1 hl e1 h1 hp⟩
theorem FnOk.either {P : Program} {w : World} {K : PySem.W.Frag} {mg : Str → Option Value} {base : Heap} {CX : CXT} {k : Nat} {f : Addr} {fd : FuncData} {ps : List Str} {s1 s2 : Sp} (F1 : FnOk P w K mg base CX k f fd ps s1) (F2 : FnOk P w K mg base CX k f fd ps s2) : FnOk P w K mg base CX k f fd ps (fun vs H Q E => s1 vs H Q E ∨ s2 vs H Q E) :=
  ⟨fun vs H Q E h => h.elim (F1.len vs H Q E) (F2.len vs H Q E), fun A outer s H args us vs Q E hr e0 hb r h => h.elim (F1.run A outer s H args us vs Q E hr e0 hb r) (F2.run A outer s H args us vs Q E hr e0 hb r)⟩
def TyE (K : PySem.W.Frag) (H : Hp) (x : V) (t : String) : Prop := ∀ H', Ex H H' → TyX K H' x (.type t)
def BadW (K : PySem.W.Frag) (H : Hp) (x : V) (m : Int) : Prop := (∃ (t : String) (b1 b2 : Bool), TyE K H x t ∧ kitB t "int" = some b1 ∧ kitB t "bool" = some b2 ∧ (b1 && !b2) = false) ∨ ∃ i : Int, x = .int i ∧ (i < 0 ∨ m < i)
theorem BadW.mono {K : PySem.W.Frag} {H H' : Hp} {x : V} {m : Int} (h : BadW K H x m) (e : Ex H H') : BadW K H' x m := by
  rcases h with ⟨t, b1, b2, ty, h1, h2, h3⟩ | h
  · exact .inl ⟨t, b1, b2, fun H1 e1 => ty H1 (e.trans e1), h1, h2, h3⟩
  · exact .inr h
def spW1 (K : PySem.W.Frag) : Sp := fun vs H Q _ => ∃ (x : V) (t : String) (b1 b2 : Bool), vs = [x] ∧ TyE K H x t ∧ kitB t "int" = some b1 ∧ kitB t "bool" = some b2 ∧ ∀ H', Ex H H' → Q (.bl (b1 && !b2)) H'
section
variable {K : PySem.W.Frag} {H : Hp}
theorem rv_isN {x : V} : RV (fun x y H Q => y = .non ∧ Q (.bl (decide (x = .non))) H) x .non H (.bl (decide (x = .non))) := fun H1 _ _ q => ⟨rfl, q H1 (Ex.refl H1)⟩
end
theorem op_eqE {X : Cx} {K : PySem.W.Frag} (h : X.K = K) (hu : X.A.units + 64 < cLine) : OpR X (compareOp .Eq) (rEqD K) := by
  subst h
  exact op_eqD hu
theorem op_ownBE {X : Cx} {K : PySem.W.Frag} {CX : CXT} {C g : Addr} {n : Nat} {sp : Sp} {E : XK} {op : CmpOp} (hK : X.K = K) (hop : ∀ a b, compareOp op a b = richCompare op a b) (hs : PySem.W.findIn K (.ref C) (cmpInfo op).2.1 = some (some (.ref g))) (hf : PySem.W.isFn K (.ref g) = true)
    (F : FnR X.prog X.w X.K X.mg X.base CX n g sp) (room : Room n X.A) (hx : Passes CX X E) : OpR X (compareOp op) (KD.rOwnB K C sp E) := by
  subst hK
  exact KD.op_ownB hop hs hf F room hx
theorem takes_len {X : Cx} {W : WX} (t : Takes X W) : Takes X (fun c d σ H => σ.length = X.N.length → W c d σ H) := fun u s' ⟨a, B, sI, pins, σ, H, cls, d, e, I, nb, up, sky, na, os, ag, w⟩ => t u s' ⟨a, B, sI, pins, σ, H, cls, d, e, I, nb, up, sky, na, os, ag, w I.len⟩
theorem op_neE {X : Cx} {K : PySem.W.Frag} (h : X.K = K) (hu : X.A.units + 64 < cLine) : OpR X (compareOp .NotEq) (rNeD K) := by
  subst h
  exact op_neD hu
theorem cl_of {K : PySem.W.Frag} {D : Addr} (C : ExcC K D) : (PySem.W.clsIn K D).isSome = true := by
  obtain ⟨cd, hc, _⟩ := PySem.W.any_some C.hd
  rw [hc]
  rfl
section
variable {X : Cx} {K : PySem.W.Frag}
theorem call_isiE (h : X.K = K) : CallR X (.builtin "isinstance") (rIsi K) := by
  subst h
  exact call_isi
theorem call_reprVE (h : X.K = K) (gd : X.A.guards = some []) (hu : X.A.units + 64 < cLine) : CallR X (.builtin "repr") (KD.rReprV K) := by
  subst h
  exact KD.call_reprV gd hu
theorem ix_listE (h : X.K = K) : IxR X (rIxL K) := by
  subst h
  exact ix_list
theorem op_notIn_seqE (h : X.K = K) : OpR X (compareOp .NotIn) (rIn K true) := by
  subst h
  exact op_notIn_seq
end
theorem q_asgRaw {te : TE} {i : Nat} {D : Ends} {tz : TS} {σ : L2.St} {H : Hp} (h : te σ H fun x H1 => tz D (σ.set i (some x)) H1) : tSeq (tAsg te (gName i)) tz D σ H := h
theorem ixN_nat {n j : Nat} (h : j < n) : ixN n ((j : Nat) : Int) = some j := by
  unfold ixN
  rw [if_pos (by omega), if_pos (by omega)]
  rfl
def tMethK (C : Addr) (m : Str) (sp : Sp) (gV : List V → List V → List V) (E : XK) (ta : TE) (tk : TA) : TE := fun σ H Q => ta σ H fun x H1 => ∃ a dx fs, x = .ref a ∧ H1 a = some (.ins C dx fs) ∧ fs.lookup m = none ∧ tk σ H1 fun zs H2 => sp (gV [x] zs) H2 Q E
section
variable {X : Cx} {CX : CXT} {k : Nat} {C p g : Addr} {sp : Sp} {E : XK} {o e : Expr} {es : List Expr} {m : Str} {pos apos : Pos} {ta : TE} {t tk : TA} {fd : FuncData} {ps ks : List Str} {kws : List Keyword} {gg : List Value → List Value → List Value} {gV : List V → List V → List V}
theorem pe_methK {pl : Sem Bool} (he : PE X o ta) (c : Cls X.K C) (hm : Meth X.K C m g) (F : FnOk X.prog X.w X.K X.mg X.base CX k g fd ps sp) (hr : Room k X.A) (hb : KBinds X.K fd ps ks gg gV) (hx : Passes CX X E) (hkw : PK X kws tk)
    (hall : (backToKw pos (keywordEach kws X.env)).all (·.1.isSome) = true := by rfl) (hks : (backToKw pos (keywordEach kws X.env)).filterMap (·.1) = ks := by rfl)
    (hpl : ((backTo pos (starEach [] X.env)).any (·.1) || (backToKw pos (keywordEach kws X.env)).any (·.1.isNone)) = false := by rfl)
    (ht : eval (.Call (.Attribute o m apos) [] kws pos) X.env = (do
      let ov ← eval o X.env
      standAt apos.atName
      let (f, first) ← holding [ov] (getMethod ov m pl)
      callWith pos f first (backTo pos (starEach [] X.env)) (backToKw pos (keywordEach kws X.env))) := by rfl) :
    PE X (.Call (.Attribute o m apos) [] kws pos) (tMethK C m sp gV E ta tk) := by
  refine ⟨fun pins s σ H Q I h => ?_⟩
  refine PySem.W.methodCall_KW (pl := pl) (thn (he.run pins s σ H _ I h) fun u s1 ⟨x, H1, I1, rx, a, dx, fs, ex, ea, l, q⟩ => ?_) ht
  subst ex
  obtain rfl : u = Value.ref a := rx
  refine getmeth_ok I1 ea c hm l ?_
  refine PySem.W.callWith_KW0 (first := [.ref a]) (h₀ := X.base) I1.ok.mod.kin hm.kp hall (thn (hkw.run pos pins s1 σ H1 _ I1 q) fun ws s3 ⟨zs, H2, I3, rz, q2⟩ => ⟨I3.kIn, ?_⟩) hpl
  rw [hks]
  exact run_fnk (us := [.ref a]) (vs := [.ref a]) F hr hb hx I3 (.cons rfl .nil) rz q2
end
namespace Ne
open PySem PySem.W
variable {M : Model} {prog : Program} {w : World} {A : Around} {E : Value → Shared → Prop} {s : Shared} {K : Frag} {x C f : Addr} {ox : Obj} {od : Option Obj}
theorem ifBound_ne {args : List Value} {Q : Option Value → Shared → Prop} (X : K.In s.heap) (I : InstAt s.heap x ox C od) (hs : findIn K (.ref C) "__ne__" = some (some (.builtin "object.__ne__")))
    (h : wpAny M A (call (.builtin "object.__ne__") (.ref x :: args)) (fun v => Q (some v)) E s) : wpAny M A (callSpecialIfBound? (.ref x) "__ne__" args) Q E s := by
  simp only [callSpecialIfBound?, bindSpecialIfBound?]
  refine wpAny_holding (wpAny_bind (wpAny_bind (wpAny_bind (I.type.here ((looks_findIn X hs).here ?_)))))
  refine wpAny_bind (wpAny_askSetting (wpAny_ite ?_))
  have done_ : wpAny M A (call (.builtin "object.__ne__") ([.ref x] ++ args) >>= fun v => pure (some v)) Q E s := wpAny_bind (wpAny_mono h (fun v s' h' => wpAny_pure h') fun _ _ h' => h')
  split
  · exact wpAny_bind (wpAny_of_eq (F.cmp_object.ne.bind _) (wpAny_pure (by exact done_)))
  · exact wpAny_tryCatch (wpAny_bind (wpAny_of_eq (F.cmp_object.ne.bind _) (wpAny_pure (by exact done_))))
theorem entry_ne {y : Value} {Q : Fin → Shared → Prop} (hu : A.units < cLine) (X : K.In s.heap) (I : InstAt s.heap x ox C od) (hs : findIn K (.ref C) "__eq__" = some (some (.ref f))) (hf : isFn K (.ref f) = true)
    (h : wpAny M A (call (.ref f) [.ref x, y]) (fun v s' => ∃ b, v = .bool b ∧ Q (.done (.ret (.bool (!b)))) s') E s) : wpAny M A (Builtin.«object.__ne__» ⟨[.ref x, y], []⟩) Q E s := by
  unfold Builtin.«object.__ne__»
  repeat (first
    | with_reducible refine wpAny_cRoomFor hu ?_
    | (refine wpAny_bind (m := callSpecialIfBound? (.ref x) (Str.ofString "__eq__") [y]) (ifBound_K X I hs hf (wpAny_mono h (fun r s' hr => by
          obtain ⟨b, rfl, hq⟩ := hr
          repeat (first | exact hq | exact wpAny_pure hq | exact wpAny_truthy_bool hq | (refine wpAny_bind (m := truthy (.bool _)) (wpAny_truthy_bool ?_)) | wp_step)) fun _ _ e => e)))
    | wp_step)
theorem rich_ne {y : Value} {Q : Value → Shared → Prop} (hu : A.units + 1 < cLine) (X : K.In s.heap) (I : InstAt s.heap x ox C od) (hy : Looks (model prog w) s.heap (typeOf y) (.ref C)) (hm : mroIn K C (.type "object") = some true)
    (hn : findIn K (.ref C) "__ne__" = some (some (.builtin "object.__ne__"))) (hs : findIn K (.ref C) "__eq__" = some (some (.ref f))) (hf : isFn K (.ref f) = true)
    (h : wpAny (model prog w) A.in1 (call (.ref f) [.ref x, y]) (fun v s' => ∃ b, v = .bool b ∧ Q (.bool (!b)) s') E s) : wpAny (model prog w) A (richCompare .NotEq (.ref x) y) Q E s := by
  have one : wpAny (model prog w) A (tryCompare (.ref x) "__ne__" y) (fun r s' => ∃ b, r = some (.bool b) ∧ Q (.bool b) s') E s := by
    unfold tryCompare
    refine wpAny_bind (ifBound_ne X I hn (wpAny_call (codeAny_call_builtin F.cmp_object.ne.plain F.cmpEntry_ne (check_slot F.cmpKind_ne F.cmpSplit_ne (I.type.andThen (looks_mroIn X hm)) (F.cmpArgs_ne _ _)
      (entry_ne (A := A.in1) (y := y) hu X I hs hf (wpAny_mono h (fun v s' hv => ?_) fun _ _ e => e))))))
    obtain ⟨b, rfl, hq⟩ := hv
    first | exact ⟨b, rfl, wpAny_pure ⟨!b, rfl, hq⟩⟩ | exact ⟨b, rfl, wpAny_pure (wpAny_pure ⟨!b, rfl, hq⟩)⟩ | exact ⟨b, rfl, ⟨!b, rfl, hq⟩⟩
  unfold richCompare
  simp only [oneThing_ref]
  refine wpAny_holding (wpAny_bind (wpAny_cRoomFor (Nat.lt_of_succ_lt hu) ?_))
  rw [cmpInfo_NotEq]
  dsimp only
  refine wpAny_bind (I.type.here (wpAny_bind (hy.here ?_)))
  rw [show (Value.ref C != Value.ref C) = false from by simp]
  simp only [Bool.false_eq_true, if_false]
  refine wpAny_bind (wpAny_pure ?_)
  simp only [Bool.false_eq_true, if_false]
  refine wpAny_bind (wpAny_mono one (fun r s' z => ?_) fun _ _ e => e)
  obtain ⟨b, rfl, hq⟩ := z
  first | exact wpAny_pure hq | exact wpAny_pure (wpAny_pure hq)
end Ne
open PySem
def rOwnNe (C : Addr) (sp : Sp) (E : XK) : R2 := fun x y H Q => ∃ (p dx : Addr) (fs : List (Str × V)) (q dy : Addr) (gs : List (Str × V)), x = .ref p ∧ y = .ref q ∧ H p = some (.ins C dx fs) ∧ H q = some (.ins C dy gs) ∧ sp [x, y] H (fun v H' => ∃ b, v = .bl b ∧ Q (.bl (!b)) H') E
section
variable {X : Cx} {CX : CXT} {C g : Addr} {n : Nat} {sp : Sp} {E : XK}
theorem op_ownNe (hn : PySem.W.findIn X.K (.ref C) "__ne__" = some (some (.builtin "object.__ne__"))) (hm : PySem.W.mroIn X.K C (.type "object") = some true) (hs : PySem.W.findIn X.K (.ref C) "__eq__" = some (some (.ref g))) (hf : PySem.W.isFn X.K (.ref g) = true)
    (F : FnR X.prog X.w X.K X.mg X.base CX n g sp) (room : Room (n + 1) X.A) (hx : Passes CX X E) : OpR X (compareOp .NotEq) (rOwnNe C sp E) := by
  intro pins s σ H x y v u Q I rx ry told
  obtain ⟨p, dx, fs, q, dy, gs, rfl, rfl, hp, hq, want⟩ := told
  obtain rfl : v = Value.ref p := rx
  obtain rfl : u = Value.ref q := ry
  obtain ⟨o1, d1, J1, _⟩ := StX.insC_at (X := X) I (.inr ⟨dx, fs, hp⟩)
  obtain ⟨o2, d2, J2, _⟩ := StX.insC_at (X := X) I (.inr ⟨dy, gs, hq⟩)
  have hu : X.A.units + 1 < cLine := by have := room.units; omega
  show wpAny (model X.prog X.w) X.A (richCompare .NotEq (.ref p) (.ref q)) _ _ _
  refine Ne.rich_ne hu I.kIn J1 J2.type hm hn hs hf (wpAny_mono (wpAny_call (SlX.run_at (us := [.ref p, .ref q]) (ws := [.ref p, .ref q]) F room.in1 I.env0.in1 hx I (.cons rfl (.cons rfl .nil)) want)) (fun r s' got => ?_) fun _ _ same => same)
  obtain ⟨z, H', I', rz, b, rfl, want2⟩ := got
  obtain rfl : r = Value.bool b := rz
  exact ⟨b, rfl, .bl (!b), H', I', rfl, want2⟩
end
section
variable {X : Cx} {CX : CXT} {C g : Addr} {n : Nat} {sp : Sp} {E : XK} {fd : FuncData} {ps : List Str}
theorem callK_of {M : Model} {A : Around} {E : Value → Shared → Prop} {s : Shared} {a : Addr} {pos : Pos} {Q : Value → Shared → Prop} {args : List (Bool × Sem Value)} {kws : List (Option Str × Sem Value)} (hplain : (args.any (·.1) || kws.any (·.1.isNone)) = false)
    (h : wpAny M A (evalArgs (.ref a) true args kws) (fun z s₁ => (∃ C ox od, PySem.W.InstAt s₁.heap a ox C od ∧ ox.data = .plain) ∧ wpAny M A (call (.ref a) ([] ++ z.pos) z.kw) Q E s₁) E s) : wpAny M A (callWith pos (.ref a) [] args kws) Q E s := by
  unfold callWith
  refine wpAny_bind (wpAny_holding (wpAny_mono h (fun got s2 there => wpAny_bind (wpAny_standAt ?_)) fun _ _ same => same))
  obtain ⟨⟨C, ox, od, J, hd⟩, go⟩ := there
  simp only [hplain]
  refine wpAny_bind ((PySem.W.kco_keeper (M := M) J hd).here ?_)
  exact wpAny_bind (wpAny_mono (wpAny_operateT go) (fun r s₂ hr => wpAny_bind (wpAny_holding (wpAny_point (wpAny_pure hr)))) fun _ _ y => y)
def tCallOK (C : Addr) (sp : Sp) (gV : List V → List V → List V) (E : XK) (tf : TE) (tk : TA) : TE := fun σ H Q => tf σ H fun y H1 => ∃ p, y = V.ref p ∧ tk σ H1 fun zs H2 => (∃ dx fs, H2 p = some (.ins C dx fs)) ∧ sp (gV [.ref p] zs) H2 Q E
theorem pe_callOK {fe : Expr} {pos : Pos} {kws : List Keyword} {tf : TE} {tk : TA} {ks : List Str} {gg : List Value → List Value → List Value} {gV : List V → List V → List V} (hf : PE X fe tf) (c : StX.CallO X.K C g) (F : FnOk X.prog X.w X.K X.mg X.base CX n g fd ps sp) (hr : Room n X.A) (hb : KBinds X.K fd ps ks gg gV) (hx : Passes CX X E)
    (hkw : PK X kws tk) (hall : (backToKw pos (keywordEach kws X.env)).all (·.1.isSome) = true := by rfl) (hks : (backToKw pos (keywordEach kws X.env)).filterMap (·.1) = ks := by rfl)
    (hpl : ((backTo pos (starEach [] X.env)).any (·.1) || (backToKw pos (keywordEach kws X.env)).any (·.1.isNone)) = false := by rfl)
    (ht : eval (.Call fe [] kws pos) X.env = (do callWith pos (← eval fe X.env) [] (backTo pos (starEach [] X.env)) (backToKw pos (keywordEach kws X.env))) := by rfl) : PE X (.Call fe [] kws pos) (tCallOK C sp gV E tf tk) := by
  refine ⟨fun pins s σ H Q I h => ?_⟩
  rw [ht]
  refine wpAny_bind (thn (hf.run pins s σ H _ I h) fun u s1 ⟨y, H1, I1, ry, p, ey, q⟩ => ?_)
  subst ey
  obtain rfl : u = Value.ref p := ry
  refine callK_of hpl (PyProof.Rows.evalArgs_kw2_nil hall (thn (hkw.run pos pins s1 σ H1 _ I1 q) fun ws s2 ⟨zs, H2, I2, rz, ⟨dx, fs, hi⟩, q2⟩ => ?_))
  obtain ⟨ox, od, J, hd⟩ := StX.insC_at (X := X) I2 (.inr ⟨dx, fs, hi⟩)
  refine ⟨⟨C, ox, od, J, hd⟩, ?_⟩
  rw [hks]
  have r2 := hb.rel (vs := [.ref p]) (us := [.ref p]) (.cons rfl .nil) rz
  have hl : (gg [.ref p] ws).length = ps.length := by rw [← r2.length]; exact F.len _ _ _ _ q2
  refine wpAny_call (PySem.W.kco_code (a := ⟨[] ++ [], ks.zip ws⟩) I2.kIn J hd c.at_ c.fn c.fi (codeAny_mono (F.run X.A X.stack s2 H2 ⟨[.ref p], ks.zip ws⟩ (gg [.ref p] ws) (gV [.ref p] zs) Q E hr I2.env0 (hb.to s2 [.ref p] ws I2.kIn hl) r2 q2) fun r s' hq => ?_))
  cases r with
  | error e => exact hx pins σ H2 s2 e s' I2 hq
  | ok fl =>
    cases fl with
    | ret u => exact I2.after hq
    | next => exact False.elim hq
    | brk => exact False.elim hq
    | cont => exact False.elim hq
end
theorem two {p : Addr → Prop} {c1 c2 : Addr} (a1 : p c1) (a2 : p c2) : ∀ c ∈ [c1, c2], p c := List.forall_mem_cons.mpr ⟨a1, List.forall_mem_cons.mpr ⟨a2, List.forall_mem_nil _⟩⟩
theorem off2 {c c1 c2 : Addr} (h : c ∉ [c1, c2]) : c ≠ c1 ∧ c ≠ c2 := by
  simp only [List.mem_cons, List.not_mem_nil, or_false, not_or] at h
  exact h
/-! the items of a tuple, counted -/
theorem enum1_meets {v : Value} {o : Obj} {St : Heap → Prop} (B : Begins v o St) : Meets (Builtin.«enumerate.__new__» ⟨[.type "enumerate", v], []⟩) (fun _ R s => St s.heap ∧
    R (.ok (.ret (.ref (s.heap.push o).objs.size))) { s with heap := (s.heap.push o).push { cls := .type "enumerate", data := .fields #[.none, .bool false, .ref s.heap.objs.size, rawInt 0, .none, .none] } }) :=
  .of_wp fun prog w A R ⟨hp, gn, dr, tk, os⟩ ⟨st, go⟩ => by
    have is_a := sub_enumerate
    have it1 : ∀ {A' : Around} {E Q : Value → Shared → Prop}, Q (.ref hp.objs.size) ⟨hp.push o, gn, dr, tk, os⟩ → wpAny (model prog w) A' (pyIter v) Q E ⟨hp, gn, dr, tk, os⟩ := fun q => B.iter prog w _ _ ⟨hp, gn, dr, tk, os⟩ _ st q
    wp_walk using it1
    refine wpAny_stack_any fun stack => wpAny_pure ?_
    split
    · rename_i c _ _ _ _ _
      cases (c == Value.type "enumerate") <;> (wp_walk using it1; exact ⟨_, rfl, go⟩)
    · wp_walk using it1
      exact ⟨_, rfl, go⟩
structure CountTo (b e it : Addr) (i : Nat) (h : Heap) : Prop where
  en : ∃ old, IsEnum h e it (i : Int) old
  tup : h.IsTupleIter it b i
section
variable {b e it : Addr} {i : Nat} {h h' : Heap}
theorem CountTo.obj (q : CountTo b e it i h) : ∀ c ∈ [e, it], ∃ o, h.get? c = some o ∧ ∀ v, o.data ≠ .cell v := by
  obtain ⟨old, he⟩ := q.en
  obtain ⟨p1, g1, _, n1⟩ := q.tup
  exact two ⟨_, he, nofun⟩ ⟨p1, g1, by rw [n1]; exact nofun⟩
theorem CountTo.lt (q : CountTo b e it i h) : ∀ c ∈ [e, it], c < h.objs.size := fun c m => let ⟨_, g, _⟩ := q.obj c m; Heap.lt_size g
theorem CountTo.keep (q : CountTo b e it i h) (k : ∀ c ∈ [e, it], ∀ o, h.get? c = some o → h'.get? c = some o) : CountTo b e it i h' := by
  obtain ⟨old, he⟩ := q.en
  refine ⟨⟨old, k e ?_ _ he⟩, q.tup.at fun o e => k it ?_ o e⟩ <;> simp
end
def ItEt (K : PySem.W.Frag) (b : Addr) : It :=
  ⟨fun i H => ∃ (ys : List V) (y : V), SqT K H b ys ∧ ys[i]? = some y, fun i H v H' => ∃ (T : Addr) (y : V), v = .ref T ∧ H T = none ∧ H' = upd H T (.tup [.int (i : Nat), y]) ∧ ∀ ys, SqT K H b ys → ys[i]? = some y, fun i H => ∃ ys : List V, SqT K H b ys ∧ i = ys.length⟩
theorem turn_enT {P : Program} {w : World} {K : PySem.W.Frag} {elts : List Expr} {kk : Nat} {tpos : Pos} {b e it : Addr} (ne : e ≠ it) (hb : b ≠ it) (hbe : e ≠ b) :
    Turn P w K (.Tuple elts kk tpos) (ItEt K b) [e, it] e (CountTo b e it) where
  mem := List.mem_cons_self ..
  obj := fun _ _ q => q.obj
  keep := fun _ _ _ q k => q.keep k
  self := fun _ _ _ _ _ q k => let ⟨_, he⟩ := q.en; wpAny_pyIter_enum he k
  item := by
    intro X e1 e2 e3 calm i pins s σ H E I free st more
    subst e1 e2 e3
    have quiet : X.A.in1.handled = none := I.ok.hd calm
    obtain ⟨ys, y, seq, hy⟩ := more
    obtain ⟨us, ru, isT, _⟩ := I.tuple seq
    obtain ⟨u, hu, ry⟩ := ru.get hy
    obtain ⟨old, he⟩ := st.en
    have in1 : i < us.toArray.size := by simpa using (List.getElem?_eq_some_iff.mp hu).1
    refine wpAny_pyNext_enum_itemC (Draws.tuple quiet it b hb us.toArray) he ⟨st.tup, isT⟩ in1 ne (fun m => by
      rcases List.mem_cons.mp m with z | m
      · exact ne z
      · exact hbe (List.mem_singleton.mp m)) fun w1 g tk src out s1 gT _ rest => ?_
    obtain rfl : u = w1 := Option.some.inj ((show us.toArray[i]? = some u by simpa using hu).symm.trans src)
    have elt := st.lt e (List.mem_cons_self ..)
    refine ⟨_, rfl, wpAny_letOwnedTupleGo_enum (s := { s with heap := g, toks := tk + 1 }) out fun g' en' but => ?_⟩
    have gT' := (but.2 _ (Nat.ne_of_gt elt)).trans gT
    have pair : ObjOk X.prog X.w (upd H s.heap.objs.size (.tup [.int (i : Nat), y])) g' s.heap.objs.size (.tup [.int (i : Nat), y]) := ⟨by show 2 ≤ sizeLine; decide, [.int (i : Nat) tk, u], .cons ⟨tk, rfl⟩ (.cons ry .nil), ⟨_, gT', rfl, _, rfl⟩⟩
    have far : ∀ c' o, c' ∉ [e, it] → s.heap.get? c' = some o → g'.get? c' = some o := fun c' o n q => by
      obtain ⟨n1, n2⟩ := off2 n
      exact (but.2 c' n1).trans (rest c' o n1 n2 q)
    refine ⟨.ref s.heap.objs.size, _, I.turnedNew (t' := tk + 1) (ch := [e, it]) far free (Nat.le_refl _) pair, rfl, ⟨_, y, rfl, I.hok.fresh (Nat.le_refl _), rfl, fun l hl => by rw [I.tuple_inj hl seq]; exact hy⟩, ?_, fun c' m => ?_⟩
    · refine ⟨⟨u, ?_⟩, s1.1.at fun o q => (but.2 _ ne.symm).trans q⟩
      rw [show ((i + 1 : Nat) : Int) = (i : Int) + 1 by omega]
      exact en'
    · exact (upd_ne (Nat.ne_of_lt (st.lt c' m))).trans (free c' m).1
  done := by
    intro X e1 e2 e3 calm i pins s σ H E I free st over
    subst e1 e2 e3
    obtain ⟨ys, seq, rfl⟩ := over
    obtain ⟨us, ru, isT, _⟩ := I.tuple seq
    have quiet : X.A.in1.handled = none := I.ok.hd calm
    have size : us.toArray.size = ys.length := by rw [ru.length]; simp
    obtain ⟨old, he⟩ := st.en
    refine wpAny_pyNext_enum_endD (Draws.tuple quiet it b hb us.toArray) he ⟨?_, isT⟩ fun g rest => ⟨rfl, I.turnedL (t' := s.toks) (ch := [e, it]) (fun c o n q => rest c o (off2 n).2 q) free⟩
    rw [size]
    exact st.tup
def iEnT (K : PySem.W.Frag) (te : TE) : TI := fun σ H R => te σ H fun v H1 => ∃ b ys, v = .ref b ∧ SqT K H1 b ys ∧ R (ItEt K b) H1
theorem pi_enT {X : Cx} {d : Expr} {te : TE} {p pos tpos : Pos} {elts : List Expr} {kk : Nat} (hg : Gl X "enumerate") (hm : X.mg "enumerate" = none) (ha : PE X d te) (flat : starEach [d] X.env = (false, eval d X.env) :: starEach [] X.env := by rfl)
    (plain : (backTo pos (starEach [] X.env)).any (·.1) = false := by rfl) : PI X (.Tuple elts kk tpos) (.Call (.Name "enumerate" p) [d] [] pos) (iEnT X.K te) where
  run := fun pins s σ H R I start => by
    have one : PA X [d] (tCons te tNil) := pa_cons (hs := flat) ha pa_nil
    refine Call_ (ld_blt I hg hm PyProof.Rows.boot_enumerate (PyProof.Rows.callWith_type1 (thn (one.run pos pins s σ H (fun vs H1 => ∃ b ys, vs = [.ref b] ∧ SqT X.K H1 b ys ∧ R (ItEt X.K b) H1) I ?st) fun us s1 ⟨vs, H1, J, r, q⟩ => ?_) flat plain))
    case st =>
      show te σ H fun v H1 => ∃ b ys, [v] = [V.ref b] ∧ SqT X.K H1 b ys ∧ R (ItEt X.K b) H1
      have : (fun v H1 => ∃ b ys, v = V.ref b ∧ SqT X.K H1 b ys ∧ R (ItEt X.K b) H1) = fun v H1 => ∃ b ys, [v] = [V.ref b] ∧ SqT X.K H1 b ys ∧ R (ItEt X.K b) H1 := by
        funext v H1
        simp
      rw [← this]
      exact start
    obtain ⟨b, ys, ev, seq, go⟩ := q
    subst ev
    cases r with | cons q1 q2 => ?_
    cases q2
    cases q1
    obtain ⟨ws, _, isT, _⟩ := J.tuple seq
    have bl : b < s1.heap.objs.size := let ⟨_, ho, _⟩ := id isT; Heap.lt_size ho
    have young : ∀ j, FpOk X pins H1 (s1.heap.objs.size + j) := fun j => J.fpOk (Nat.le_add_right ..) (J.hok.fresh (Nat.le_add_right ..))
    refine callType_new F.called_enumerate (by decide) (F.typeCall_enumerate_1 _) (F.newCall_enumerate_1 _) (fun obj => F.args_object_init_2 obj _) F.entry_enumerate_new (enum1_meets (begins_tuple b ws.toArray)) ⟨show s1.heap.IsTuple b ws.toArray from isT, ?_⟩
    have size : (s1.heap.push { cls := .type "tuple_iterator", data := .fields #[.ref b, .int 0 0] }).objs.size = s1.heap.objs.size + 1 := Heap.size_push ..
    show _ ∧ _
    rw [size]
    have new := Heap.get?_push_size (s1.heap.push { cls := .type "tuple_iterator", data := .fields #[.ref b, .int 0 0] }) (o := { cls := .type "enumerate", data := .fields #[.none, .bool false, .ref s1.heap.objs.size, rawInt 0, .none, .none] }) rfl
    rw [size] at new
    refine ⟨⟨_, new, rfl⟩, wpAny_pyIter_enum new ?_⟩
    exact ⟨s1.heap.objs.size + 1, _, CountTo b (s1.heap.objs.size + 1) s1.heap.objs.size, ItEt X.K b, H1, rfl, J.kept (t' := s1.toks) fun c o q => Heap.get?_push_of_some _ (Heap.get?_push_of_some _ q), turn_enT (Nat.succ_ne_self _) (Nat.ne_of_lt bl) (Nat.ne_of_gt (Nat.lt_succ_of_lt bl)), ⟨⟨_, new⟩, ⟨_, Heap.get?_push_of_some _ (Heap.get?_push_size _ rfl), rfl, rfl⟩⟩, two (young 1) (young 0), go⟩

end KF
set_option Elab.async false
set_option linter.all false
set_option maxRecDepth 100000
set_option maxHeartbeats 4000000
namespace KF
open PySem PySem.Spec PyProof.Rows L2 Evl
/-! ### sums of tuples of bools; slices, sums, comprehensions of tuples; divmod -/
theorem pre_bools (bs : List Bool) : ∀ n, n ≤ bs.length → preSum (fun i => if bs.getD i false = true then 1 else 0) n = (upTo (fun i => bs.getD i false) n : Nat)
  | 0, _ => rfl
  | n + 1, h => by
    rw [preSum, pre_bools bs n (by omega), upTo_succ]
    split <;> simp
def rSumB (K : PySem.W.Frag) : List V → Hp → VK → Prop := fun vs H Q => ∃ (a : Addr) (bs : List Bool), vs = [V.ref a] ∧ SqT K H a (bs.map V.bl) ∧ Q (.int (cnt bs : Nat)) H
theorem call_sumB {X : Cx} (hc : X.calm = true) : CallR X (.builtin "sum") (rSumB X.K) := by
  intro pins s σ H vs us Q I r h
  obtain ⟨a, bs, rfl, hs, q⟩ := h
  obtain ⟨its, rv, ht, _⟩ := I.tuple hs
  rw [Vals.ref1 r]
  have hb := rv.bls
  have ht : s.heap.IsTuple a its.toArray := ht
  obtain ⟨o, ho, hcl, n, hd⟩ := id ht
  have hne : a ≠ s.heap.objs.size := Nat.ne_of_lt (Heap.lt_size ho)
  have hsz : its.toArray.size = bs.length := by rw [hb]; simp
  have W := (Walks.tuple (prog := X.prog) (w := X.w) (A := X.A.in1) (I.ok.hd hc) s.heap.objs.size a hne its.toArray).toS
  rw [hsz] at W
  refine call_sum_walkAnyB (wpAny_pyIter_tuple ht ?_)
  refine ⟨s.heap.objs.size, _, _, _, _, _, _, fun i => if bs.getD i false = true then 1 else 0, rfl, W, ⟨⟨_, Heap.get?_push_size _ rfl, rfl, rfl⟩, ht.at fun o e => Heap.get?_push_of_some _ e⟩, fun b hb => ?_, fun i v hP => ?_, fun s' t' hm => ?_⟩
  · rcases List.mem_cons.mp hb with rfl | hb
    · exact Heap.lt_size (Heap.get?_push_size _ rfl)
    · obtain rfl := List.mem_singleton.mp hb
      exact Heap.lt_size (Heap.get?_push_of_some _ ho)
  · have hv' : its[i]? = some v := by simpa using hP
    rw [hb, List.getElem?_map] at hv'
    obtain ⟨b, hb2, rfl⟩ := Option.map_eq_some_iff.mp hv'
    exact .inr ⟨b, rfl, by
      show (if bs.getD i false = true then (1 : Int) else 0) = _
      rw [List.getD_eq_getElem?_getD, hb2] <;> rfl⟩
  · obtain ⟨h', g', d', tk', os'⟩ := s'
    have e1 : g' = s.gens := hm.gens
    have e2 : d' = s.drawn := hm.drawn
    have e3 : os' = s.os := hm.os
    subst e1 e2 e3
    refine ⟨.int _, H, I.kept fun b o e => hm.heap b o (fun hb => absurd (Heap.lt_size e) ((List.mem_singleton.mp hb) ▸ Nat.lt_irrefl _)) (Heap.get?_push_of_some _ e), ⟨_, rfl⟩, ?_⟩
    rw [pre_bools bs _ (Nat.le_refl _), upTo_take bs _ (Nat.le_refl _), List.take_length]
    exact q
/-- a tuple, made or old -/
def EvX (te : TE) (σ : L2.St) (H : Hp) (xs : List V) : Prop := ∀ H1, Ex H H1 → ∀ Q : VK, (∀ p H2, Ex H1 H2 → H2 p = some (.tup xs) → Q (.ref p) H2) → te σ H1 Q
section
variable {σ : L2.St} {K : PySem.W.Frag} {H H' : Hp} {tx te ta tb tv : TE} {u t : TT} {v x y z : V} {r : R2} {D : Ends} {tz : TS}
theorem ew_of {p : Addr} {xs : List V} (h : Ev te σ H (.ref p)) (hp : H p = some (.tup xs)) : EvX te σ H xs := fun H1 e Q q => h H1 e _ fun H2 e2 => q p H2 e2 ((e.trans e2) _ _ hp)
theorem ew_u {xs : List V} (h : EvU te σ H xs) : EvX te σ H xs := fun H1 e Q q => h H1 e _ fun p H2 _ e2 h2 => q p H2 e2 h2
theorem ew_is {xs ys : List V} (h : EvX te σ H xs) (e : xs = ys) : EvX te σ H ys := e ▸ h
theorem cut_whole {xs : List V} {lo hi : Option Int} (h : HT.sIx xs.length 0 lo = 0 ∧ HT.sIx xs.length xs.length hi = xs.length) : cutV xs lo hi = xs := by
  unfold cutV
  rw [h.1, h.2, List.drop_zero, Nat.sub_zero, List.take_length]
/-- t[lo:hi] -/
theorem ew_sl {tl th : TO} {lo hi : Option Int} {xs : List V} (h : EvX te σ H xs) (h1 : EvO tl σ H lo) (h2 : EvO th σ H hi) : EvX (tSl (rSlA K) te tl th) σ H (cutV xs lo hi) := fun H1 e Q q =>
  h H1 e _ fun p H2 e2 hp => h1 H2 (e.trans e2) _ fun H3 e3 => h2 H3 ((e.trans e2).trans e3) _ fun H4 e4 => ⟨p, xs, rfl, st_of ((e3.trans e4) _ _ hp), fun hw => q p H4 ((e2.trans e3).trans e4) (by rw [cut_whole hw]; exact (e3.trans e4) _ _ hp), fun _ l hl => q l _ (((e2.trans e3).trans e4).trans (Ex.new hl)) upd_same⟩
/-- t + u -/
theorem ew_cat {xs ys : List V} (h1 : EvX ta σ H xs) (h2 : EvX tb σ H ys) (hz : xs.length + ys.length ≤ 100000) : EvX (tOp (rCatA K) ta tb) σ H (xs ++ ys) := fun H1 e Q q =>
  h1 H1 e _ fun p H2 e2 hp => h2 H2 (e.trans e2) _ fun l H3 e3 hl => ⟨p, l, xs, ys, rfl, rfl, st_of (e3 _ _ hp), st_of hl, sz_of hz, fun n => q l H3 (e2.trans e3) (by rw [n]; exact hl), fun _ n => q p H3 (e2.trans e3) (by rw [n, List.append_nil]; exact e3 _ _ hp), fun _ _ a ha => q a _ ((e2.trans e3).trans (Ex.new ha)) upd_same⟩
theorem ev_sumB {bs : List Bool} (h : EvX te σ H (bs.map V.bl)) : Ev (tCB (rSumB K) (tCons te tNil)) σ H (.int (cnt bs : Nat)) := fun H1 e Q q => h H1 e _ fun p H2 e2 hp => ⟨p, bs, rfl, st_of hp, q H2 e2⟩
theorem el_listW {xs : List V} (h : EvX te σ H xs) : EvL (tCB (fun xs H Q => ∃ p ys, xs = [V.ref p] ∧ (SqL K H p ys ∨ SqT K H p ys) ∧ ∀ l, H l = none → Q (.ref l) (upd H l (.lst ys))) (tCons te tNil)) σ H xs := fun H1 e Q q =>
  h H1 e _ fun p H2 e2 h2 => ⟨p, xs, rfl, .inr (st_of h2), fun l hl => q l _ (fresh_back e2 hl) (e2.trans (Ex.new hl)) upd_same⟩
theorem ev_lenW {xs : List V} (h : EvX te σ H xs) : Ev (tCB (fun xs H Q => ∃ p ys, xs = [V.ref p] ∧ (SqL K H p ys ∨ SqT K H p ys) ∧ Q (.int (ys.length : Nat)) H) (tCons te tNil)) σ H (.int (xs.length : Nat)) := fun H1 e Q q =>
  h H1 e _ fun p H2 e2 h2 => ⟨p, xs, rfl, .inr (st_of h2), q H2 e2⟩
theorem ev_lenN {xs : List V} (h : EvL te σ H xs) : Ev (tCB (fun xs H Q => ∃ p ys, xs = [V.ref p] ∧ (SqL K H p ys ∨ SqT K H p ys) ∧ Q (.int (ys.length : Nat)) H) (tCons te tNil)) σ H (.int (xs.length : Nat)) := fun H1 e Q q =>
  h H1 e _ fun p H2 _ e2 h2 => ⟨p, xs, rfl, .inl (sq_of h2), q H2 e2⟩
/-- a comprehension over a tuple, made or old -/
theorem el_lcW {xs : List V} {tl : TE} {j : Nat} {vs : List Nat} (f : Nat → Bool) (v : Nat → V) (h : EvX tl σ H xs) (hz : xs.length ≤ 40000) (hw : ∀ x, wipe ((wipe σ vs).set j (some x)) vs = wipe σ vs)
    (ht : ∀ (i : Nat) (x : V) H1, Ex H H1 → xs[i]? = some x → EvT t ((wipe σ vs).set j (some x)) H1 (f i)) (he : ∀ (i : Nat) (x : V) H1, Ex H H1 → xs[i]? = some x → f i = true → Ev te ((wipe σ vs).set j (some x)) H1 (v i)) :
    EvL (tLc (iTup K tl) (gName j) t te vs) σ H (given xs.length f v) := fun H0 e Q q => h H0 e _ fun a H1 e1 hx => ⟨a, rfl, ⟨xs, st_of hx⟩, fun Dl hD =>
  lc_tup (xs := xs) (Cw H1 f v Dl) ⟨hD, Ex.new hD, upd_same⟩ (fun i H' _ p => st_of (p.2.1 _ _ hx)) (fun i x H' hi p => ⟨hw x, cw_turn p (by have := (List.getElem?_eq_some_iff.mp hi).1; omega) (ht i x H1 (e.trans e1) hi) (fun hf => he i x H1 (e.trans e1) hi hf)⟩)
    (fun H' p => q Dl H' (fresh_back e1 p.1) (e1.trans p.2.1) p.2.2)⟩
/-- a comprehension over enumerate(tuple) -/
theorem el_lcEn {b : Addr} {ys : List V} {tl : TE} {i1 i2 : Nat} {vs : List Nat} (f : Nat → Bool) (v : Nat → V) (h : Ev tl σ H (.ref b)) (hb : SqT K H b ys) (hz : ys.length ≤ 40000)
    (hw : ∀ x y, wipe (((wipe σ vs).set i1 (some x)).set i2 (some y)) vs = wipe σ vs)
    (ht : ∀ (i : Nat) (y : V) H1, Ex H H1 → ys[i]? = some y → EvT t (((wipe σ vs).set i1 (some (.int (i : Nat)))).set i2 (some y)) H1 (f i)) (he : ∀ (i : Nat) (y : V) H1, Ex H H1 → ys[i]? = some y → f i = true → Ev te (((wipe σ vs).set i1 (some (.int (i : Nat)))).set i2 (some y)) H1 (v i)) :
    EvL (tLc (iEnT K tl) (gTup K 2 (gCons (gName i1) (gCons (gName i2) gNil))) t te vs) σ H (given ys.length f v) := fun H0 e Q q => h H0 e _ fun H1 e1 => ⟨b, ys, rfl, ex_t (e.trans e1) hb, fun Dl hD =>
  ⟨fun i m H' => m = ys.length - i ∧ i ≤ ys.length ∧ Cw H1 f v Dl i H', ⟨ys.length, by simp, Nat.zero_le _, hD, Ex.new hD, upd_same⟩, by
    rintro i m H' ⟨rfl, hi, p⟩
    have hb' : SqT K H' b ys := ex_t ((e.trans e1).trans p.2.1) hb
    by_cases hlt : i < ys.length
    · refine .inr ⟨⟨ys, ys[i], hb', by simp [hlt]⟩, Cw H1 f v Dl (i + 1), fun H2 p' => ⟨ys.length - (i + 1), by omega, rfl, hlt, p'⟩, ?_⟩
      rintro x H2 ⟨T, y, rfl, hT, rfl, hy⟩
      have hy' := hy ys hb'
      have e2 : Ex H' (upd H' T (.tup [.int (i : Nat), y])) := Ex.new hT
      have p' : Cw H1 f v Dl i (upd H' T (.tup [.int (i : Nat), y])) := ⟨p.1, p.2.1.trans e2, e2 _ _ p.2.2⟩
      exact ⟨T, _, rfl, st_of upd_same, rfl, _, _, rfl, _, _, rfl, rfl, hw _ _, cw_turn p' (by omega) (ht i y H1 (e.trans e1) hy') (fun hf => he i y H1 (e.trans e1) hy' hf)⟩
    · have e2 : i = ys.length := by omega
      subst e2
      exact .inl ⟨⟨ys, hb', rfl⟩, q Dl H' (fresh_back e1 p.1) (e1.trans p.2.1) p.2.2⟩⟩⟩
/-- a, b = divmod(x, y) -/
theorem q_divmod {i j : Nat} {a b : Int} (h1 : Ev ta σ H (.int a)) (h2 : Ev tb σ H (.int b)) (h0 : 0 < b) (hb : b < 1073741824) (k : ∀ H1, Ex H H1 → tz D ((σ.set i (some (.int (a / b)))).set j (some (.int (a % b)))) H1) :
    tSeq (tAsg (tCB (fun xs H Q => ∃ i j, xs = [V.int i, V.int j] ∧ CDiv i j ∧ ∀ p, H p = none → Q (.ref p) (upd H p (.tup [.int (i / j), .int (i % j)]))) (tCons ta (tCons tb tNil))) (gTup K 2 (gCons (gName i) (gCons (gName j) gNil)))) tz D σ H :=
  h1 H (Ex.refl H) _ fun H1 e1 => h2 H1 e1 _ fun H2 e2 => ⟨a, b, rfl, ⟨h0, hb⟩, fun p hp => ⟨p, _, rfl, st_of upd_same, rfl, _, _, rfl, _, _, rfl, rfl, k _ ((e1.trans e2).trans (Ex.new hp))⟩⟩
end
/-! ### tuples of bools as data -/
theorem dp_bools {K : PySem.W.Frag} {H : Hp} : ∀ bs : List Bool, DpAll K H (bs.map V.bl) (bs.map PyData.bool)
  | [] => .nil
  | b :: bs => .cons (.bl b) (dp_bools bs)
theorem vals_flat : ∀ bs : List Bool, (bs.map V.bl).all flatV = true
  | [] => rfl
  | _ :: bs => vals_flat bs
theorem true_in : ∀ bs : List Bool, inV (.bl true) (bs.map V.bl) = decide (0 < cnt bs)
  | [] => rfl
  | b :: bs => by
    have ih := true_in bs
    unfold inV at ih ⊢
    rw [List.map_cons, List.any_cons, ih]
    cases b with
    | true => simp [cnt, eqV]
    | false => simp [cnt, eqV]
theorem eqv_bools : ∀ xs ys : List Bool, PyData.eqvAll (xs.map PyData.bool) (ys.map PyData.bool) = decide (xs = ys)
  | [], [] => by simp [PyData.eqvAll]
  | [], _ :: _ => by simp [PyData.eqvAll]
  | _ :: _, [] => by simp [PyData.eqvAll]
  | x :: xs, y :: ys => by
    simp only [List.map_cons, PyData.eqvAll, eqv_bools xs ys]
    cases x <;> cases y <;> simp [PyData.eqv]
end KF
set_option Elab.async false
set_option linter.all false
set_option maxRecDepth 100000
set_option maxHeartbeats 4000000
namespace KF
open PySem PySem.Spec PyProof.Rows L2 Evl
theorem lay_bools : ∀ bs : List Bool, PyData.canLayAll0 (bs.map PyData.bool) = true
  | [] => by simp [PyData.canLayAll0]
  | b :: bs => by simp [PyData.canLayAll0, PyData.canLay0, lay_bools bs]
theorem depth_bools : ∀ bs : List Bool, PyData.depthAll (bs.map PyData.bool) = 0
  | [] => by simp [PyData.depthAll]
  | b :: bs => by simp [PyData.depthAll, PyData.depth, depth_bools bs]
theorem weight_bools : ∀ bs : List Bool, PyData.weightAll (bs.map PyData.bool) ≤ 2 * bs.length
  | [] => by simp [PyData.weightAll]
  | b :: bs => by
    have := weight_bools bs
    simp only [List.map_cons, PyData.weightAll, PyData.weight, List.length_cons]
    omega
theorem show_bools : ∀ bs : List Bool, PyData.showableAll (bs.map PyData.bool) = true
  | [] => by simp [PyData.showableAll]
  | b :: bs => by simp [PyData.showableAll, PyData.showable, show_bools bs]
theorem nodict_bools : ∀ bs : List Bool, PyData.hasDictAll (bs.map PyData.bool) = false
  | [] => by simp [PyData.hasDictAll]
  | b :: bs => by simp [PyData.hasDictAll, PyData.hasDict, nodict_bools bs]
theorem shaped_tup (bs : List Bool) : SeqAt.shaped (.tuple (bs.map PyData.bool)) = true := by
  unfold SeqAt.shaped
  simp [PyData.canLay0, PyData.depth, lay_bools, depth_bools]
def partD (l p : Nat) (bs : List Bool) : PyData := .list [.int (l : Nat), .int (p : Nat), .tuple (bs.map PyData.bool)]
theorem log_small {n : Nat} (h : n < 1000) : ((n : Nat) : Int).natAbs.log2 < 1920 := by
  have e : ((n : Nat) : Int).natAbs = n := Int.natAbs_natCast n
  rw [e]
  by_cases z : n = 0
  · subst z; decide
  · exact Nat.lt_trans ((Nat.log2_lt z).mpr (Nat.lt_trans h (by decide : 1000 < 2 ^ 10))) (by decide)
theorem part_fits {l p : Nat} {bs : List Bool} (hl : l < 1000) (hp : p < 1000) (hb : bs.length ≤ 100) : (partD l p bs).showable = true ∧ (partD l p bs).hasDict = false ∧ (partD l p bs).depth ≤ 60 ∧ (partD l p bs).shown.length ≤ sizeLine := by
  have s1 := log_small hl
  have s2 := log_small hp
  refine ⟨?_, ?_, ?_, ?_⟩
  · unfold partD
    simp only [PyData.showable, PyData.showableAll, show_bools, Bool.and_true, Bool.and_eq_true, decide_eq_true_eq]
    exact ⟨s1, s2⟩
  · unfold partD
    simp [PyData.hasDict, PyData.hasDictAll, nodict_bools]
  · unfold partD
    simp [PyData.depth, PyData.depthAll, depth_bools]
  · refine PyData.shown_fits_of_layable0 (B := 13) (by decide) (by decide) ?_ ?_
    · unfold partD PyData.layable0
      have w := weight_bools bs
      simp only [PyData.canLay0, PyData.canLayAll0, PyData.depth, PyData.depthAll, PyData.weight, PyData.weightAll, lay_bools, depth_bools, Bool.and_true, Bool.true_and, Bool.and_eq_true, decide_eq_true_eq]
      refine ⟨by decide, ?_⟩
      refine decide_eq_true ?_
      have z : (2 : Nat) ^ 20 = 1048576 := by decide
      rw [z]
      split <;> split <;> omega
    · unfold partD
      have i1 : (PyData.shown (.int (l : Nat))).length ≤ 13 := PyData.shown_int_le (by rw [Int.natAbs_natCast]; exact Nat.lt_trans hl (by decide))
      have i2 : (PyData.shown (.int (p : Nat))).length ≤ 13 := PyData.shown_int_le (by rw [Int.natAbs_natCast]; exact Nat.lt_trans hp (by decide))
      simp only [PyData.intsShort, PyData.intsShortAll, PyData.intsShortAll_bools, Bool.and_true, Bool.true_and, Bool.and_eq_true, decide_eq_true_eq]
      exact ⟨i1, i2⟩
def pairD (b : Bool) (n : Nat) : PyData := .list [.bool b, .int (n : Nat)]
theorem pair_fits : ∀ (b : Bool) (n : Nat), n < 61 → (pairD b n).showable = true ∧ (pairD b n).hasDict = false ∧ (pairD b n).depth ≤ 60 ∧ (pairD b n).shown.length ≤ sizeLine := by
  have h : ∀ b : Bool, ((List.range 61).all fun n => decide ((pairD b n).showable = true ∧ (pairD b n).hasDict = false ∧ (pairD b n).depth ≤ 60 ∧ (pairD b n).shown.length ≤ 1000)) = true := by decide +kernel
  intro b n hn
  obtain ⟨h1, h2, h3, h4⟩ := of_decide_eq_true (all_nat (h b) n hn)
  exact ⟨h1, h2, h3, Nat.le_trans h4 (by decide)⟩
end KF
set_option Elab.async false
set_option linter.all false
set_option maxRecDepth 100000
set_option maxHeartbeats 4000000
namespace KS
open PySem PySem.Spec PyProof.Rows L2
/-! ### the set of some texts: how many they are -/
/-- how many unlike texts stand among the first i -/
def unlike (xs : List Str) : Nat → Nat
  | 0 => 0
  | i + 1 => if (xs.take i).any (· == xs.getD i Str.empty) = true then unlike xs i else unlike xs i + 1
theorem unlike_le (xs : List Str) : ∀ i, unlike xs i ≤ i
  | 0 => Nat.le_refl _
  | i + 1 => by
    have := unlike_le xs i
    unfold unlike
    split <;> omega
theorem take_any (xs : List Str) {i : Nat} (h : i < xs.length) (k : Str) : (xs.take (i + 1)).any (· == k) = ((xs.take i).any (· == k) || decide (k = xs.getD i Str.empty)) := by
  rw [List.take_succ, List.getElem?_eq_getElem h, List.any_append, List.getD_eq_getElem?_getD, List.getElem?_eq_getElem h]
  congr 1
  show ((xs[i] == k) || false) = decide (k = xs[i])
  rw [Bool.or_false]
  by_cases e : k = xs[i]
  · rw [decide_eq_true e, beq_iff_eq.mpr e.symm]
  · rw [decide_eq_false e, beq_eq_false_iff_ne.mpr fun z => e z.symm]
section
variable {prog : Program} {w : World} {A : Around} {R : Result → Shared → Prop} {I : Addr} {fp wr : List Addr} {G : Array GenState → Array GenState → Prop} {n : Nat} {P : Nat → Value → Prop} {St : Nat → Shared → Prop}
/-- the loop that puts them in -/
theorem put_texts (W : WalksS prog w A.in1 I fp wr G n P St) (a : Addr) (away : a ∉ fp) (xs : List Str) (len : xs.length = n) (few : n + 1 < scanBound) (are : ∀ i v, P i v → ∃ t, v = .str (xs.getD i Str.empty) t) :
    ∀ (k i : Nat) (s : Shared), n - i = k → i ≤ n → St i s → s.heap.SetOf (PySem.strKind prog w) a (fun z => (xs.take i).any (· == z)) (unlike xs i) →
      (∀ s', Moved (a :: wr) G s s' → s'.heap.SetOf (PySem.strKind prog w) a (fun z => (xs.take n).any (· == z)) (unlike xs n) → R (.ok (.ret .none)) s') →
      codeAny (model prog w) A (.builtin "set.update.loop" ⟨[.ref a, .ref I], []⟩) R s := by
  have aw : a ∉ wr := fun z => away (W.sub _ z)
  have more : ∀ b ∈ wr, b ∈ a :: wr := fun b z => List.mem_cons_of_mem _ z
  have same : ∀ {s1 s2 : Shared} {S : Str → Bool} {c : Nat}, Moved wr G s1 s2 → s1.heap.SetOf (PySem.strKind prog w) a S c → s2.heap.SetOf (PySem.strKind prog w) a S c := fun m ⟨o, es, ep, t, ho, r⟩ => ⟨o, es, ep, t, m.heap a _ aw ho, r⟩
  intro k
  induction k with
  | zero =>
    intro i s hk hi st set fin
    obtain rfl : i = n := by omega
    refine codeAny_builtin PyProof.Rows.F.entry_set_update_loop ?_
    rw [Around.under_plainId PyProof.Rows.F.plain_set_update_loop _]
    show wpAny _ A.in1 (pyNext (.ref I) >>= fun _ => _) _ _ s
    exact wpAny_bind (W.done s _ _ st fun s1 m => wpAny_pure (fin s1 (m.mono more) (same m set)))
  | succ k ih =>
    intro i s hk hi st set fin
    have lt : i < n := by omega
    refine codeAny_builtin PyProof.Rows.F.entry_set_update_loop ?_
    rw [Around.under_plainId PyProof.Rows.F.plain_set_update_loop _]
    show wpAny _ A.in1 (pyNext (.ref I) >>= fun _ => _) _ _ s
    refine wpAny_bind (W.item i s _ _ lt st fun v s1 pv st1 m => ?_)
    obtain ⟨t, rfl⟩ := are i v pv
    have set1 := same m set
    show wpAny _ A.in1 (holding [Value.str (xs.getD i Str.empty) t] (setAdd a _) >>= fun _ => _) _ _ s1
    unfold setAdd
    have is_ : (PySem.strKind prog w).is (xs.getD i Str.empty) (.str (xs.getD i Str.empty) t) = true := PySem.strKind_is _ _ _ _
    refine wpAny_bind (wpAny_holding (wpAny_holding (wpAny_bind ((PySem.strKind prog w).pyHash is_ ?_))))
    have room : unlike xs i + 1 < scanBound := by have := unlike_le xs i; omega
    refine wpAny_setAddHashed_of (knd := PySem.strKind prog w) (s := { s1 with toks := s1.toks + 1 }) is_ rfl set1 room fun h' but set2 => ?_
    have set3 : h'.SetOf (PySem.strKind prog w) a (fun z => (xs.take (i + 1)).any (· == z)) (unlike xs (i + 1)) := SetOf_congr set2 (fun z => (take_any xs (by omega) z).symm) rfl
    have others : ∀ b, b ≠ a → ∀ o, s1.heap.get? b = some o → h'.get? b = some o := fun b ne o e => (but.2 b ne).trans e
    refine wpAny_pure ⟨plainId_quiet PyProof.Rows.F.plain_set_update_loop _, ih (i + 1) _ (by omega) lt (W.frame _ s1 _ _ st1 (Nat.le_succ _) fun b hb o e => others b (fun z => away (z ▸ hb)) o e) set3 fun s2 m2 set4 => ?_⟩
    exact fin s2 (Moved.trans W.gtrans ((m.mono more).then_heap (Nat.le_succ _) fun b o hb e => others b (fun z => hb (z ▸ List.mem_cons_self)) o e) m2) set4
end
end KS
set_option Elab.async false
set_option linter.all false
set_option maxRecDepth 100000
set_option maxHeartbeats 4000000
namespace KS
open PySem PySem.Spec PyProof.Rows L2
/-- what a set call asks of the thing that it walks -/
structure Walked (prog : Program) (w : World) (l : Addr) (T : String) (items : Array Value) (o : Obj) : Prop where
  cls : o.cls = .type T
  set : isSubtype (.type T) (.type "set") = pure false
  frz : isSubtype (.type T) (.type "frozenset") = pure false
  dct : (Value.type T == Value.type "dict") = false
  go : ∀ (A A1 : Around) (E : Value → Shared → Prop) (s : Shared) (Q : Value → Shared → Prop), A1.handled = none → s.heap.get? l = some o →
    (∀ (oi : Obj) (St : Nat → Shared → Prop), WalksS prog w A1 s.heap.objs.size [s.heap.objs.size, l] [s.heap.objs.size] (fun a b => b = a) items.size (fun i v => items[i]? = some v) St → St 0 { s with heap := s.heap.push oi } → Q (.ref s.heap.objs.size) { s with heap := s.heap.push oi }) →
    wpAny (model prog w) A (pyIter (.ref l)) Q E s
theorem walked_list {prog : Program} {w : World} {l : Addr} {items : Array Value} {o : Obj} (hc : o.cls = .type "list") {n : Nat} (hd : o.data = .seq items n) : Walked prog w l "list" items o where
  cls := hc
  set := PySem.F.sub_list_set
  frz := PySem.F.sub_list_frozenset
  dct := by decide
  go := fun A A1 E s Q hh ho k => by
    have isL : s.heap.IsList l items := ⟨o, ho, hc, n, hd⟩
    have ne : l ≠ s.heap.objs.size := Nat.ne_of_lt (Heap.lt_size ho)
    exact wpAny_pyIter_list isL (k _ _ (Walks.list hh _ l ne items).toS ⟨⟨_, Heap.get?_push_size _ rfl, rfl, rfl⟩, isL.push _⟩)
theorem walked_tuple {prog : Program} {w : World} {l : Addr} {items : Array Value} {o : Obj} (hc : o.cls = .type "tuple") {n : Nat} (hd : o.data = .seq items n) : Walked prog w l "tuple" items o where
  cls := hc
  set := PySem.F.sub_tuple_set
  frz := PySem.F.sub_tuple_frozenset
  dct := by decide
  go := fun A A1 E s Q hh ho k => by
    have isT : s.heap.IsTuple l items := ⟨o, ho, hc, n, hd⟩
    have ne : l ≠ s.heap.objs.size := Nat.ne_of_lt (Heap.lt_size ho)
    exact wpAny_pyIter_tuple isT (k _ _ (Walks.tuple hh _ l ne items).toS ⟨⟨_, Heap.get?_push_size _ rfl, rfl, rfl⟩, isT.push _⟩)
section
variable {prog : Program} {w : World} {A : Around} {E : Value → Shared → Prop} {s : Shared}
set_option maxHeartbeats 8000000 in
/-- set(x), x a list or a tuple of texts -/
theorem call_set_texts {l : Addr} {T : String} {items : Array Value} {ol : Obj} {xs : List Str} {Q : Value → Shared → Prop} (hh : A.handled = none) (hol : s.heap.get? l = some ol) (W : Walked prog w l T items ol) (are : ∀ i v, items[i]? = some v → ∃ t, v = Value.str (xs.getD i Str.empty) t) (len : xs.length = items.size) (few : items.size + 1 < scanBound)
    (h : ∀ (h' : Heap) (tk : Nat), h'.SetOf (PySem.strKind prog w) s.heap.objs.size (fun z => (xs.take items.size).any (· == z)) (unlike xs items.size) → (∀ b o, b < s.heap.objs.size → s.heap.get? b = some o → h'.get? b = some o) → Q (.ref s.heap.objs.size) { s with heap := h', toks := tk }) :
    wpAny (model prog w) A (call (.type "set") [.ref l]) Q E s := by
  obtain ⟨c, tl, mro⟩ := PySem.F.called_set.mro
  have made := PySem.F.called_set.made; have sub := PySem.F.called_set.sub
  refine wpAny_call (codeAny_of_tree ?_); show wpAny _ _ (callAny (.type "set") _) _ _ _
  refine wpAny_pure ⟨Code.quiet_builtin _ (by decide +kernel), codeAny_builtin PySem.F.entry_type_call ?_⟩; rw [Around.under_plain (weight_type_call_type "set" [.ref l] []) rfl]
  have a1 := PySem.F.called_set.notType; have a2 := PySem.F.called_set.canCreate; have a3 := PySem.F.typeCall_set_1 (.ref l)
  repeat (any_goals (first | assumption | wp_step))
  let e0 : Bool → Obj := fun led => { cls := .type "set", dict := none, data := .set #[] 0 (.fresh 0 0 led) }
  refine codeAny_mono (code_set_new_1 (.ref l) (E := E) (Q₁ := fun obj s1 => ∃ led : Bool, obj = .ref s.heap.objs.size ∧ s1 = { s with heap := s.heap.push (e0 led) }) fun led => ⟨led, rfl, rfl⟩) fun r s1 hr => ?_
  cases r with
  | error e => exact hr
  | ok fl => ?_
  cases fl with
  | next => exact hr.elim
  | brk => exact hr.elim
  | cont => exact hr.elim
  | ret obj => ?_
  obtain ⟨led, rfl, rfl⟩ := hr
  have here : (s.heap.push (e0 led)).get? s.heap.objs.size = some (e0 led) := Heap.get?_push_size _ rfl
  have ty : Shared.TypeIs { s with heap := s.heap.push (e0 led) } (.ref s.heap.objs.size) "set" := ⟨_, here, rfl⟩
  have b1 := PySem.F.called_set.init.lookup; have b2 := PySem.F.called_set.init.bind (.ref s.heap.objs.size)
  repeat (any_goals (first | assumption | wp_step))
  refine codeAny_mono (codeAny_call_builtin (R := wants (fun r s2 => r = .none ∧ ∃ h' tk, s2 = { s with heap := h', toks := tk } ∧ h'.SetOf (PySem.strKind prog w) s.heap.objs.size (fun z => (xs.take items.size).any (· == z)) (unlike xs items.size) ∧ (∀ b o, b < s.heap.objs.size → s.heap.get? b = some o → h'.get? b = some o)) E) PySem.F.called_set.init.plain PySem.F.entry_set_init (check_set_init_1 ty ?_)) fun r2 s2 hr2 => ?_
  · have hol1 : (s.heap.push (e0 led)).get? l = some ol := Heap.get?_push_of_some _ hol
    have lS : l < s.heap.objs.size := Heap.lt_size hol
    have quiet : A.in1.in1.in1.handled = none := by simp [hh]
    have size1 : (s.heap.push (e0 led)).objs.size = s.heap.objs.size + 1 := Heap.size_push ..
    have w1 := W.set; have w2 := W.frz; have w3 := W.dct; have go := W.go
    obtain ⟨ocls, odict, odata, oslots⟩ := ol
    obtain rfl : ocls = .type T := W.cls
    unfold Builtin.«set.__init__» noKeywords Builtin.Frozenset.updateFrom
    generalize hPI : pyIter = PI
    wp_walk
    subst hPI
    refine go _ A.in1.in1.in1 _ _ _ quiet hol1 fun oi St W1 st0 => wpAny_bind (wpAny_runValue ?_)
    have far : s.heap.objs.size ∉ [(s.heap.push (e0 led)).objs.size, l] := by
      rw [size1]
      intro m
      rcases List.mem_cons.mp m with z | m
      · exact absurd z (Nat.ne_of_lt (Nat.lt_succ_self _))
      · exact absurd (List.mem_singleton.mp m) (Nat.ne_of_gt lS)
    refine put_texts W1 s.heap.objs.size far xs len few are (items.size - 0) 0 _ rfl (Nat.zero_le _) st0 ?start fun s3 m3 set3 => ?fin
    case start =>
      have at2 : ((s.heap.push (e0 led)).push oi).get? s.heap.objs.size = some (e0 led) := Heap.get?_push_of_some _ here
      exact SetOf_congr ((setObjOf_fresh (knd := PySem.strKind prog w) led).setOf at2 (by unfold scanBound; omega)) (fun _ => rfl) rfl
    case fin =>
      obtain ⟨h3, g3, d3, tk3, os3⟩ := s3
      have eg : g3 = s.gens := m3.gens; have ed : d3 = s.drawn := m3.drawn; have eo : os3 = s.os := m3.os
      subst eg ed eo
      refine wpAny_pure (wpAny_pure ⟨rfl, h3, tk3, rfl, set3, fun b o hb e => ?_⟩)
      refine m3.heap b o (fun m => ?_) (Heap.get?_push_of_some _ (Heap.get?_push_of_some _ e))
      rcases List.mem_cons.mp m with z | m
      · exact absurd z (Nat.ne_of_lt hb)
      · have z := List.mem_singleton.mp m
        rw [size1] at z
        exact absurd z (Nat.ne_of_lt (Nat.lt_succ_of_lt hb))
  · cases r2 with
    | error e => exact hr2
    | ok fl2 => ?_
    cases fl2 with
    | next => exact hr2.elim
    | brk => exact hr2.elim
    | cont => exact hr2.elim
    | ret v2 => ?_
    obtain ⟨rfl, h3, tk3, rfl, set3, kept⟩ := hr2
    repeat (any_goals (first | assumption | wp_step))
    exact h _ _ set3 kept
end
end KS
set_option Elab.async false
set_option linter.all false
set_option maxRecDepth 100000
set_option maxHeartbeats 4000000
namespace KS
open PySem PySem.Spec PyProof.Rows L2 Evl
theorem unlike_two (a b : Str) : unlike [a, b] 2 = if a = b then 1 else 2 := by
  show (if ([a] : List Str).any (· == b) = true then (if ([] : List Str).any (· == a) = true then 0 else 0 + 1) else _ + 1) = _
  by_cases e : a = b
  · subst e
    simp [unlike]
  · simp [unlike, e]
/-- len(set(xs)), xs a list or a tuple of texts -/
def tLenT (K : PySem.W.Frag) (ta : TE) : TE := fun σ H Q => ta σ H fun x H1 => ∃ (l : Addr) (xs : List Str), x = .ref l ∧ (SqL K H1 l (xs.map V.str) ∨ SqT K H1 l (xs.map V.str)) ∧ xs.length ≤ 1000 ∧ Q (.int (unlike xs xs.length : Nat)) H1
theorem texts_at : ∀ {xs : List Str} {us : List Value}, Vals (xs.map V.str) us → ∀ (i : Nat) (v : Value), us[i]? = some v → ∃ t, v = Value.str (xs.getD i Str.empty) t
  | [], _, .nil, _, _, h => by simp at h
  | x :: xs, _, .cons r t, 0, v, h => by
    obtain ⟨k, rfl⟩ := r
    obtain rfl := Option.some.inj h
    exact ⟨k, rfl⟩
  | x :: xs, _, .cons r t, i + 1, v, h => texts_at t i v h
theorem pe_lenT {X : Cx} {K : PySem.W.Frag} {a : Expr} {ta : TE} {p p2 q pos : Pos} (hK : X.K = K) (hc : X.calm = true) (hg : Gl X "len") (hm : X.mg "len" = none) (hg2 : Gl X "set") (hm2 : X.mg "set" = none) (ha : PE X a ta)
    (one : starEach [a] X.env = (false, eval a X.env) :: starEach [] X.env := by rfl) : PE X (.Call (.Name "len" p) [.Call (.Name "set" p2) [a] [] q] [] pos) (tLenT K ta) where
  run := fun pins s σ H Q I h => by
    subst hK
    refine Call_ (ld_blt I hg hm boot_len (callWith_builtin1 (args_cons ?_ rfl) rfl rfl))
    refine Call_ (ld_blt I hg2 hm2 boot_set (callWith_type1 (args_cons (thn (ha.run pins s σ H _ I h) fun v s1 ⟨x, H1, I1, r1, got⟩ => args_nil ?_) one) one rfl))
    obtain ⟨l, xs, rfl, sq, few, got⟩ := got
    obtain rfl : v = Value.ref l := r1
    have quiet : X.A.handled = none := I1.ok.hd hc
    have fin : ∀ (us : List Value), Vals (xs.map V.str) us → ∀ (h' : Heap) (tk : Nat), h'.SetOf (PySem.strKind X.prog X.w) s1.heap.objs.size (fun z => (xs.take us.toArray.size).any (· == z)) (unlike xs us.toArray.size) → (∀ b o, b < s1.heap.objs.size → s1.heap.get? b = some o → h'.get? b = some o) →
        wpAny (model X.prog X.w) X.A (spliced (backTo pos (starEach [] X.env))) (fun vs s2 => wpAny (model X.prog X.w) X.A (call (.builtin "len") (Value.ref s1.heap.objs.size :: vs)) (EP X pins σ Q) X.xe s2) X.xe { s1 with heap := h', toks := tk } := fun us r h' tk set kept => by
      have len : us.toArray.size = xs.length := by rw [List.size_toArray, ← r.length, List.length_map]
      rw [len] at set
      obtain ⟨o, es, ep, t, ho, ex, hd, _, _, _, hf, hn⟩ := set
      have J : Inv X pins σ H1 { s1 with heap := h', toks := tk } := I1.kept fun b o e => kept b o (Heap.lt_size e) e
      have small := unlike_le xs xs.length
      exact args_nil (call_len_set ho ex hd hf (by rw [hn] <;> omega) ⟨.int (unlike xs xs.length : Nat), H1, J.tok _, ⟨_, by rw [hn]⟩, got⟩)
    rcases sq with sq | sq
    · obtain ⟨us, r, ⟨o, n, ho, hcl, _, hd⟩, _⟩ := I1.list sq
      have len : xs.length = us.toArray.size := by rw [List.size_toArray, ← r.length, List.length_map]
      exact call_set_texts quiet ho (walked_list hcl hd) (fun i v hv => texts_at r i v (by simpa using hv)) len (by unfold scanBound; omega) fun h' tk set kept => fin us r h' tk set kept
    · obtain ⟨us, r, ⟨o, ho, hcl, n, hd⟩, _⟩ := I1.tuple sq
      have len : xs.length = us.toArray.size := by rw [List.size_toArray, ← r.length, List.length_map]
      exact call_set_texts quiet ho (walked_tuple hcl hd) (fun i v hv => texts_at r i v (by simpa using hv)) len (by unfold scanBound; omega) fun h' tk set kept => fin us r h' tk set kept
end KS
set_option Elab.async false
set_option linter.all false
set_option maxRecDepth 100000
set_option maxHeartbeats 4000000
namespace KU
open PySem PySem.Spec PyProof.Rows L2 NdefX
section
variable {X : Cx} {CX : CXT} {k : Nat} {g q a : Addr} {sp : Sp} {E : XK} {pins : List (Addr × Obj)} {σ : L2.St} {H : Hp} {s : Shared} {Q : VK} {pos : Pos} {e : Expr} {es : List Expr} {t : TA}
/-- a bound method called with what is written, the first thing without a star -/
theorem met_call (ha : PA X (e :: es) t) (F : FnR X.prog X.w X.K X.mg X.base CX k g sp) (hr : Room k X.A) (hx : Passes CX X E) (hf : PySem.W.fnIn X.K g = true) (I : Inv X pins σ H s)
    (h : t σ H fun ws H1 => H1 q = some (.met g a) ∧ sp (.ref a :: ws) H1 Q E) (he : starEach (e :: es) X.env = (false, eval e X.env) :: starEach es X.env) : wpAny (model X.prog X.w) X.A (callWith pos (.ref q) [] (backTo pos (starEach (e :: es) X.env)) []) (EP X pins σ Q) X.xe s := by
  have hh := thn (ha.run pos pins s σ H _ I h) (Q' := fun us s1 => PySem.W.MethP X.K q g (.ref a) s1.heap ∧ wpAny (model X.prog X.w) X.A (call (.ref q) ([] ++ us) []) (EP X pins σ Q) X.xe s1) fun us s1 ⟨ws, H1, I1, rv, hm, hsp⟩ => ⟨met_P I1 hm, wpAny_call (PySem.W.method_call (met_P I1 hm).1 (run_fnR (us := Value.ref a :: us) (vs := V.ref a :: ws) F hr hx I1 (.cons rfl rv) hsp))⟩
  rw [he] at hh ⊢
  have body : wpAny (model X.prog X.w) X.A (evalArgs (.ref q) true (backTo pos ((false, eval e X.env) :: starEach es X.env)) []) (fun z s1 => PySem.W.MethP X.K q g (.ref a) s1.heap ∧ wpAny (model X.prog X.w) X.A (call (.ref q) ([] ++ z.pos) z.kw) (EP X pins σ Q) X.xe s1) X.xe s :=
    Calls.evalArgs_plain hh
  cases hb : (backTo pos ((false, eval e X.env) :: starEach es X.env)).any (·.1) with
  | false => exact callwith_met (by rw [hb]; rfl) hf body
  | true => exact PySem.W.ks_call (P := PySem.W.MethP X.K q g (.ref a)) hb (PySem.W.keeps_M hf) body
end
/-- what the text tells of a method that calls super(): its function's record, its code, its class -/
structure SupF (P : Program) (K : PySem.W.Frag) (F : NF) (D f cc : Addr) (fd : FuncData) : Prop where
  fn : ∃ (oc : Value) (od : Option Addr) (osl : Array (Option Value)), K.lookup f = some ⟨oc, od, .func fd, osl⟩
  fd_ : ∃ (kV doc pm ct : Value) (an : Option Addr), fd = PySem.W.fnX F.name F.qual F.params F.body F.scope F.cl .none kV doc pm an (.ref F.c) ct
  code : PySem.W.codeIn K (.ref F.c) F.qual = true
  file : ∃ (ccl : Value) (cdd : Option Addr) (vs : Array Value) (ccs : Array (Option Value)) (fl : Str) (tf : Tok), K.lookup F.c = some ⟨ccl, cdd, .fields vs, ccs⟩ ∧ vs[2]? = some (.str fl tf) ∧ ((P.main.file : Str) == fl) = true
  cl : F.cl = [(("__class__" : Str), cc)]
  cell : ∃ (cl : Value) (cld : Option Addr) (csl : Array (Option Value)), K.lookup cc = some ⟨cl, cld, .cell (some (.ref D)), csl⟩
  cls : ∃ cdD, PySem.W.clsIn K D = some cdD
  top : (P.main.scope.names.lookup ("super" : Str)).isSome = false
section
variable {CX : CXT} {P : Program} {w : World} {K : PySem.W.Frag} {mg : Str → Option Value} {base : Heap} {N ps : List Str} {F : NF} {f D cc : Addr} {fd : FuncData} {k : Nat} {sp : Sp}
/-- how a body ends, its frame's names as they were -/
def EndF (X : Cx) (pins : List (Addr × Obj)) (σ : L2.St) (Q : VK) (fl : Flow) (s' : Shared) : Prop := match fl with
  | .ret u => EP X pins σ Q u s'
  | .next => ∃ H', Inv X pins σ H' s' ∧ Q .non H'
  | _ => False
/-- a method with the cell __class__: its body at a known place -/
theorem fn_at (T : SupF P K F D f cc fd) (S : NScope N ps ["__class__"] F.scope) (len : ∀ vs H Q E, sp vs H Q E → vs.length = ps.length)
    (hbody : ∀ (A : Around) (outer : List Env) (s : Shared) (H : Hp) (vs : List V) (Q : VK) (E : XK) (s1 : Shared), Room k (A.deeper (envF F f s.heap.objs.size)) → sp vs H Q E → Inv (ncx CX P w K mg base N F f A outer s H E) [] (startF N vs [some (.ref D)]) H s1 →
      _root_.PySem.wpAt (model P w) (A.deeper (envF F f s.heap.objs.size)) (.func F.body (envF F f s.heap.objs.size)) (execs F.body (envF F f s.heap.objs.size)) (EndF (ncx CX P w K mg base N F f A outer s H E) [] (startF N vs [some (.ref D)]) Q) (ncx CX P w K mg base N F f A outer s H E).xe s1) :
    FnOk P w K mg base CX (k + 1) f fd ps sp := by
  refine ⟨len, ?_⟩
  intro A outer s H args us vs Q E hr e0 hb r hsp
  have hl := len _ _ _ _ hsp
  have KX : K.In s.heap := e0.mod.kin.keeps (fun b o z => (e0.bs b o z).left)
  have lim : s.heap.NoLimit := e0.mod.nolimit.keeps (fun b o z => (e0.bs b o z).left)
  obtain ⟨kV, doc, pm, ct, an, rfl⟩ := T.fd_
  obtain ⟨oc, od, osl, lk⟩ := T.fn
  obtain ⟨cl0, cld, csl, lc⟩ := T.cell
  have C : CellsAt F.cl ["__class__"] [some (.ref D)] s.heap H := by
    rw [T.cl]
    have hc : s.heap.get? cc = some ⟨cl0, cld, .cell (some (.ref D)), csl⟩ := KX _ _ lc
    have hn : H cc = none := (e0.bs cc _ (e0.mod.kin _ _ lc)).2
    have look : ∀ y c, List.lookup y [(("__class__" : Str), cc)] = some c → c = cc ∧ y = "__class__" := fun y c e => by
      have m := PySem.mem_of_lookup e
      have := List.mem_singleton.mp m
      cases this
      exact ⟨rfl, rfl⟩
    refine ⟨rfl, fun y c e => ?_, fun x y c e1 e2 => ?_, fun i y e => ?_⟩
    · rw [(look y c e).1]
      exact ⟨hn, _, _, hc, rfl⟩
    · rw [(look x c e1).2, (look y c e2).2]
    · match i, e with
      | 0, e =>
        cases e
        exact ⟨cc, rfl, fun v hv => by cases hv; exact ⟨_, rfl, _, hc, rfl⟩⟩
  refine codeAny_call_function hr.depth (KX _ _ lk) rfl S.co S.gen rfl (PySem.W.codeRec_of KX T.code) (hb _ _ _ _ ?_)
  refine wpAny_newFunctionEnv S.nocell (fun ⟨n, _⟩ hy => S.par n (List.of_mem_zip hy).1) (fun h₁ hns hsb => ⟨lim.fresh _ hsb, ?_⟩) S.kind
  refine (show codeAny _ _ (.func F.body (envF F f s.heap.objs.size)) _ _ from ks_codeAny_funcAt ?_)
  have kp : ∀ b o, s.heap.get? b = some o → h₁.get? b = some o := by
    intro b o z
    exact hsb.extBut b o (Nat.ne_of_lt (Heap.lt_size z)) (Heap.get?_push_of_some _ z)
  have I : Inv (ncx CX P w K mg base N F f A outer s H E) [] (startF N vs [some (.ref D)]) H { s with heap := h₁, toks := s.toks + (ps.zip us).length } := inv_startN S hr.hd e0 hl r C hns kp
  refine ks_wpAt_mono (hbody A outer s H vs Q E _ (hr.deeper _) hsp I) (fun fl s' hs => ?_) fun e s' hs => hs
  have fin : ∀ {H' : Hp} {v : V} {u : Value}, Inv (ncx CX P w K mg base N F f A outer s H E) [] (startF N vs [some (.ref D)]) H' s' → L2.RelV v u → Q v H' → CE outer P w H s Q u s' := by
    intro H' v u J rv q
    exact ⟨v, H', J.os, J.bare, J.base, J.hok, rv, q⟩
  cases fl with
  | ret u =>
    obtain ⟨v, H', J, rv, q⟩ := hs
    exact fin J rv q
  | next =>
    obtain ⟨H', J, q⟩ := hs
    exact fin (v := .non) (u := .none) J rfl q
  | brk => exact False.elim hs
  | cont => exact False.elim hs
end
end KU
set_option Elab.async false
set_option linter.all false
set_option maxRecDepth 100000
set_option maxHeartbeats 4000000
namespace KU
open PySem PySem.Spec PyProof.Rows L2 NdefX
section
variable {CX CX' : CXT} {P : Program} {w : World} {K : PySem.W.Frag} {mg : Str → Option Value} {base : Heap} {N ps : List Str} {F : NF} {f D cc x C dx g : Addr} {fd : FuncData} {k kk : Nat} {sp : Sp}
  {A : Around} {outer : List Env} {s0 s : Shared} {H0 H : Hp} {E E' : XK} {pins : List (Addr × Obj)} {σ : L2.St} {fs : List (Str × V)} {p0 p1 pos apos : Pos} {attr m : Str} {whole : Sem Value} {EE : Value → Shared → Prop}
/-- super() -/
theorem super_obj {Q : Value → Shared → Prop} {ar : Arg} (T : SupF P K F D f cc fd) (S : NScope N ps ["__class__"] F.scope) (hsup : F.scope.names.lookup ("super" : Str) = some .globalImplicit) (hp : (F.params.posonlyargs ++ F.params.args).head? = some ar)
    (hN : N[0]? = some ar.arg) (hka : F.scope.names.lookup ar.arg = some .local) (hm0 : mg "super" = none) (hat : (attr == ("__class__" : Str)) = false) (I : Inv (ncx CX P w K mg base N F f A outer s0 H0 E) pins σ H s) (hσ : σ[0]? = some (some (.ref x))) (hx : H x = some (.ins C dx fs)) (hsub : PySem.W.mroIn K C (.ref D) = some true)
    (h : ∀ so s', s'.heap.get? so = some (PySem.W.ks_superObj D x C) → Inv (ncx CX P w K mg base N F f A outer s0 H0 E) pins σ H s' → Q (.ref so) s') :
    _root_.PySem.wpAt (model P w) (ncx CX P w K mg base N F f A outer s0 H0 E).A (.func F.body (envF F f s0.heap.objs.size)) (attributeBase (.Call (.Name "super" p0) [] [] p1) attr (envF F f s0.heap.objs.size) whole) Q EE s := by
  obtain ⟨kV, doc, pm, ct, an, rfl⟩ := T.fd_
  obtain ⟨oc, od, osl, lk⟩ := T.fn
  obtain ⟨cl0, cld, csl, lc⟩ := T.cell
  obtain ⟨ccl, cdd, vs, ccs, fl, tf, lf, hvs, hfile⟩ := T.file
  obtain ⟨cdD, hD⟩ := T.cls
  have XK : K.In s.heap := I.kIn
  have hkc : F.scope.names.lookup ("__class__" : Str) = some .free := S.frk _ (List.mem_singleton.mpr rfl)
  obtain ⟨m1, hns, hl⟩ := I.loc
  obtain ⟨u, ru, lu⟩ := hl 0 ar.arg (.ref x) hN hσ (.inl hka)
  obtain rfl : u = Value.ref x := ru
  have hv : m1 ar.arg = some (.ref x) := by
    rcases lu with ⟨_, hm⟩ | ⟨hk, _⟩
    · exact hm
    · have hk : F.scope.names.lookup ar.arg = some .cell ∨ F.scope.names.lookup ar.arg = some .free := hk
      rw [hka] at hk
      rcases hk with z | z <;> cases z
  obtain ⟨oD, hD1, hD2⟩ : ∃ oD, s.heap.get? D = some oD ∧ oD.data = .cls cdD := by
    unfold PySem.W.clsIn at hD
    split at hD
    · rename_i c d cd' sl ho
      cases hD
      exact ⟨_, XK _ _ ho, rfl⟩
    · cases hD
  obtain ⟨mA, O, _⟩ := ins_get I.hok hx
  obtain ⟨odx, J, _⟩ := O.look
  obtain ⟨mb, b1, b2⟩ := I.mod.blt
  have hcl : (envF F f s0.heap.objs.size).cells.lookup ("__class__" : Str) = some cc := by
    show F.cl.lookup _ = _
    rw [T.cl]
    rfl
  obtain ⟨h1, h2, h3, t, h4⟩ := s
  refine ks_wpAt_super_base (env := envF F f s0.heap.objs.size) hsup hkc hat rfl (XK _ _ lk) rfl hp rfl (XK _ _ lf) rfl hvs hfile T.top ?_
  refine PySem.W.ks_loadName_global (x := "super") S.kind hsup (Calls.loadGlobal_builtin (env := envF F f s0.heap.objs.size) (I.mod.glob.keeps I.bk) hm0 (b1.keeps I.bk) ((b2 _ (by decide +kernel)).trans (by rfl)) ⟨rfl, ?_⟩)
  refine wpAny_loadName_free S.kind hkc hcl ⟨_, XK _ _ lc, rfl⟩ ?_
  refine wpAny_loadName_local S.kind hka hns hv ?_
  refine ks_wpAny_isType_cls hD1 hD2 (And.intro rfl ?_)
  refine ks_wpAny_call_super hD1 hD2 J.at_ J.cls (fun c e => ?_) (PySem.W.looks_mroIn XK hsub) (fun h' e k => ?_)
  · have := J.no
    unfold PySem.W.notCls at this
    rw [e] at this
    exact Bool.noConfusion this
  · exact h _ _ e (I.kept (t' := t) k)
end
end KU
set_option Elab.async false
set_option linter.all false
set_option maxRecDepth 100000
set_option maxHeartbeats 4000000
namespace KU
open PySem PySem.Spec PyProof.Rows L2 NdefX
section
variable {X : Cx} {pins : List (Addr × Obj)} {σ : L2.St} {H : Hp} {s : Shared} {so x C D g dx : Addr} {fs : List (Str × V)} {m : Str} {A : Around} {E : Value → Shared → Prop} {pl : Sem Bool}
/-- what stands where a method is looked up behind super() -/
structure SupM (K : PySem.W.Frag) (C D : Addr) (m : Str) (g : Addr) : Prop where
  any : PySem.W.nsIn K cStatics "thirdparty.any" = some none
  at_ : PySem.W.ks_superIn K C D m = some (some (.ref g))
  ty : PySem.W.typeIn K (.ref g) = some (.type "function")
  nc : (m == ("__class__" : Str)) = false
  sub : PySem.W.mroIn K C (.ref D) = some true
  fi : PySem.W.fnIn K g = true
/-- the words for it -/
theorem SupM.look (M : SupM X.K C D m g) (I : Inv X pins σ H s) (hx : H x = some (.ins C dx fs)) : ∃ (cd : ClassData) (of : Obj), PySem.W.Looks (model X.prog X.w) s.heap (mroOf (.ref C)) cd.mro ∧ PySem.W.alongIn X.K m ((cd.mro.dropWhile (· != .ref D)).drop 1) = some (some (.ref g)) ∧ s.heap.get? g = some of ∧ of.cls = .type "function" ∧ x ≠ C := by
  have XK := I.kIn
  obtain ⟨mA, O, _⟩ := ins_get I.hok hx
  obtain ⟨odx, J, _⟩ := O.look
  have hm := M.at_
  unfold PySem.W.ks_superIn at hm
  cases hc : PySem.W.clsIn X.K C with
  | none => rw [hc] at hm; cases hm
  | some cd =>
    rw [hc] at hm
    obtain ⟨of, hof, hofc⟩ : ∃ of, s.heap.get? g = some of ∧ of.cls = .type "function" := by
      have ht : (X.K.lookup g).map (·.cls) = some (.type "function") := M.ty
      cases z : X.K.lookup g with
      | none => rw [z] at ht; cases ht
      | some of => rw [z] at ht; exact ⟨of, XK _ _ z, Option.some.inj ht⟩
    exact ⟨cd, of, fun A Q E s k q => wpAny_bind ((PySem.W.looks_clsIn XK hc) A _ E s k (wpAny_pure q)), hm, hof, hofc, PySem.W.ks_ne XK J hc⟩
/-- super().m, to be called -/
theorem super_meth {Q : Value × List Value → Shared → Prop} (M : SupM X.K C D m g) (I : Inv X pins σ H s) (hso : s.heap.get? so = some (PySem.W.ks_superObj D x C)) (hx : H x = some (.ins C dx fs))
    (h : ∀ q s', H q = none → Inv X pins σ (upd H q (.met g x)) s' → Q (.ref q, []) s') : wpAny (model X.prog X.w) A (getMethod (.ref so) m pl) Q E s := by
  obtain ⟨cd, of, h1, h2, h3, h4, h5⟩ := M.look I hx
  have XK := I.kIn
  have fr := I.hok.fresh (Nat.le_refl s.heap.objs.size)
  have I2 := I.laid (h' := s.heap.push (PySem.W.methodObj (.ref g) (.ref x))) (t' := s.toks + 1) (a := s.heap.objs.size) (o := .met g x) (fun b u z => Heap.get?_push_of_some _ z) (Nat.le_refl _)
    (show (s.heap.push (PySem.W.methodObj (.ref g) (.ref x))).get? s.heap.objs.size = some (PySem.W.methodObj (.ref g) (.ref x)) from Heap.get?_push_size s.heap rfl)
  obtain ⟨hh, g1, g2, t, g3⟩ := s
  exact ks_wpAny_getMethod_super hso (PySem.W.looks_opaque XK M.any) h1 rfl XK h2 h3 h4 h5 M.nc (h _ _ fr I2)
/-- super().m, as a value -/
theorem super_attr {Q : Value → Shared → Prop} (M : SupM X.K C D m g) (I : Inv X pins σ H s) (hso : s.heap.get? so = some (PySem.W.ks_superObj D x C)) (hx : H x = some (.ins C dx fs))
    (h : ∀ q s', H q = none → Inv X pins σ (upd H q (.met g x)) s' → Q (.ref q) s') : wpAny (model X.prog X.w) A (getAttr (.ref so) m true) Q E s := by
  obtain ⟨cd, of, h1, h2, h3, h4, h5⟩ := M.look I hx
  have XK := I.kIn
  have fr := I.hok.fresh (Nat.le_refl s.heap.objs.size)
  have I2 := I.laid (h' := s.heap.push (PySem.W.methodObj (.ref g) (.ref x))) (t' := s.toks + 1) (a := s.heap.objs.size) (o := .met g x) (fun b u z => Heap.get?_push_of_some _ z) (Nat.le_refl _)
    (show (s.heap.push (PySem.W.methodObj (.ref g) (.ref x))).get? s.heap.objs.size = some (PySem.W.methodObj (.ref g) (.ref x)) from Heap.get?_push_size s.heap rfl)
  obtain ⟨hh, g1, g2, t, g3⟩ := s
  have ty : ∀ n, (⟨hh, g1, g2, n, g3⟩ : Shared).TypeIs (.ref so) "super" := fun _ => ⟨_, hso, rfl⟩
  have slot := F.ks_slot_super_ga.lookup
  unfold getAttr getAttrBy
  refine wpAny_bind (wpAny_mkText (wpAny_holding (wpAny_bind (wpAny_typeOf (ty _) (wpAny_bind (wpAny_of_eq slot ?own))))))
  case own =>
  show wpAny _ _ (getAttrByItsOwn (.ref so) (.str m t) (.type "super") (.builtin "super.__getattribute__") true _) _ _ _
  unfold getAttrByItsOwn
  unfold hookBefore
  unfold callGetattribute
  unfold boundAndCalled
  refine wpAny_bind (wpAny_of_eq (by first | rfl | exact (show (if onTheHeap (.type "super") then typeLookup (.type "super") "__getattr__" else pure none) = pure none from rfl)) ?_)
  refine wpAny_bind (wpAny_attempt (wpAny_holding (wpAny_bind (wpAny_of_eq (F.ks_slot_super_ga.bind _) ?_))))
  refine wpAny_mono (Q := fun v s2 => v = .ref hh.objs.size ∧ s2 = ⟨hh.push (PySem.W.methodObj (.ref g) (.ref x)), g1, g2, t + 1, g3⟩) (E := fun _ _ => False) (wpAny_call_entry F.ks_slot_super_ga (ty _) F.ks_entry_super_ga (ks_wpAny_super_ga hso (PySem.W.looks_opaque XK M.any) h1 rfl XK h2 h3 h4 h5 M.nc ⟨_, rfl, rfl, rfl⟩) (F.ks_gaArgs_super _ _)) (fun v s2 hv => ?_) fun _ _ z => z.elim
  obtain ⟨rfl, rfl⟩ := hv
  first | exact wpAny_pure (h _ _ fr I2) | exact wpAny_pure (wpAny_pure (h _ _ fr I2))
end
end KU
set_option Elab.async false
set_option linter.all false
set_option maxRecDepth 100000
set_option maxHeartbeats 4000000
namespace KU
open PySem PySem.Spec PyProof.Rows L2 NdefX
section
variable {CX CX' : CXT} {P : Program} {w : World} {K : PySem.W.Frag} {mg : Str → Option Value} {base : Heap} {N ps : List Str} {F : NF} {f D cc g : Addr} {fd : FuncData} {k : Nat} {sp sp' : Sp}
  {p0 p1 pos apos rp : Pos} {m : Str} {e : Expr} {es : List Expr} {t : TA} {ar : Arg} {pl : Sem Bool} {E' : XK → XK}
/-- def m(self, ..): return super().m(..) -/
theorem fn_super (T : SupF P K F D f cc fd) (S : NScope N ps ["__class__"] F.scope) (hbody : F.body = [.Return (some (.Call (.Attribute (.Call (.Name "super" p0) [] [] p1) m apos) (e :: es) [] pos)) rp])
    (hsup : F.scope.names.lookup ("super" : Str) = some .globalImplicit) (hp : (F.params.posonlyargs ++ F.params.args).head? = some ar) (hN : N[0]? = some ar.arg) (hka : F.scope.names.lookup ar.arg = some .local) (hm0 : mg "super" = none)
    (he : ∀ L, eval (.Call (.Attribute (.Call (.Name "super" p0) [] [] p1) m apos) (e :: es) [] pos) (envF F f L) = (do
      let ov ← attributeBase (.Call (.Name "super" p0) [] [] p1) m (envF F f L) (eval (.Call (.Name "super" p0) [] [] p1) (envF F f L))
      standAt apos.atName
      let (f', first) ← holding [ov] (getMethod ov m pl)
      callWith pos f' first (backTo pos (starEach (e :: es) (envF F f L))) []))
    (ha : ∀ A outer s H E, PA (ncx CX P w K mg base N F f A outer s H E) (e :: es) t) (hst : ∀ L, starEach (e :: es) (envF F f L) = (false, eval e (envF F f L)) :: starEach es (envF F f L))
    (FR : FnR P w K mg base CX' k g sp') (hx : ∀ A outer s H E, Passes CX' (ncx CX P w K mg base N F f A outer s H E) (E' E))
    (want : ∀ vs H Q E, sp vs H Q E → vs.length = ps.length ∧ ∃ x C dx fs, vs[0]? = some (.ref x) ∧ H x = some (.ins C dx fs) ∧ SupM K C D m g ∧ ∀ q, H q = none → t (startF N vs [some (.ref D)]) (upd H q (.met g x)) fun ws H1 => H1 q = some (.met g x) ∧ sp' (.ref x :: ws) H1 Q (E' E)) :
    FnOk P w K mg base CX (k + 1) f fd ps sp := by
  refine fn_at T S (fun vs H Q E h => (want vs H Q E h).1) fun A outer s H vs Q E s1 hr hsp I => ?_
  obtain ⟨_, x, C, dx, fs, h0, hi, M, ht⟩ := want _ _ _ _ hsp
  have hσ : (startF N vs [some (.ref D)])[0]? = some (some (.ref x)) := by
    cases vs with
    | nil => cases h0
    | cons v r =>
      cases h0
      rfl
  have eb : execs F.body (envF F f s.heap.objs.size) = execs [.Return (some (.Call (.Attribute (.Call (.Name "super" p0) [] [] p1) m apos) (e :: es) [] pos)) rp] (envF F f s.heap.objs.size) := by rw [hbody]
  rw [eb]
  refine ks_wpAt_execs_cons (ks_wpAt_Return_some (ks_wpAt_MethodCall (pl := pl) ?_ (he _)))
  refine super_obj T S hsup hp hN hka hm0 M.nc I hσ hi M.sub fun so s2 hso I2 => super_meth M I2 hso hi fun q s3 hq I3 => ?_
  exact met_call (ha A outer s H E) FR hr (hx A outer s H E) M.fi I3 (ht q hq) (hst _)
end
section
variable {CX CX' : CXT} {P : Program} {w : World} {K : PySem.W.Frag} {mg : Str → Option Value} {base : Heap} {N ps : List Str} {F : NF} {f D cc g : Addr} {fd : FuncData} {k : Nat} {sp sp' : Sp}
  {p0 p1 p2 pos apos rp : Pos} {m : Str} {e1 e2 : Expr} {t : TA} {ar : Arg} {E' : XK → XK}
/-- def m(self, ..): super().m(x, *y) -/
theorem fn_superS (T : SupF P K F D f cc fd) (S : NScope N ps ["__class__"] F.scope) (hbody : F.body = [.Expr (.Call (.Attribute (.Call (.Name "super" p0) [] [] p1) m apos) [e1, .Starred e2 p2] [] pos) rp])
    (hsup : F.scope.names.lookup ("super" : Str) = some .globalImplicit) (hp : (F.params.posonlyargs ++ F.params.args).head? = some ar) (hN : N[0]? = some ar.arg) (hka : F.scope.names.lookup ar.arg = some .local) (hm0 : mg "super" = none)
    (hsw : ∀ L, swapsWith (.Call (.Attribute (.Call (.Name "super" p0) [] [] p1) m apos) [e1, .Starred e2 p2] [] pos) none rp.line (envF F f L) = pure false) (hia : ∀ L, interactive (envF F f L) = false)
    (ha : ∀ A outer s H E, PA (ncx CX P w K mg base N F f A outer s H E) [e1, .Starred e2 p2] t) (hst : ∀ L, starEach [e1, .Starred e2 p2] (envF F f L) = [(false, eval e1 (envF F f L)), (true, eval e2 (envF F f L))])
    (FR : FnR P w K mg base CX' k g sp') (hx : ∀ A outer s H E, Passes CX' (ncx CX P w K mg base N F f A outer s H E) (E' E))
    (want : ∀ vs H Q E, sp vs H Q E → vs.length = ps.length ∧ ∃ x C dx fs, vs[0]? = some (.ref x) ∧ H x = some (.ins C dx fs) ∧ SupM K C D m g ∧ ∀ q, H q = none → t (startF N vs [some (.ref D)]) (upd H q (.met g x)) fun ws H1 => H1 q = some (.met g x) ∧ sp' (.ref x :: ws) H1 (fun _ H2 => Q .non H2) (E' E)) :
    FnOk P w K mg base CX (k + 1) f fd ps sp := by
  refine fn_at T S (fun vs H Q E h => (want vs H Q E h).1) fun A outer s H vs Q E s1 hr hsp I => ?_
  obtain ⟨_, x, C, dx, fs, h0, hi, M, ht⟩ := want _ _ _ _ hsp
  have hσ : (startF N vs [some (.ref D)])[0]? = some (some (.ref x)) := by
    cases vs with
    | nil => cases h0
    | cons v r =>
      cases h0
      rfl
  have eb : execs F.body (envF F f s.heap.objs.size) = execs [.Expr (.Call (.Attribute (.Call (.Name "super" p0) [] [] p1) m apos) [e1, .Starred e2 p2] [] pos) rp] (envF F f s.heap.objs.size) := by rw [hbody]
  rw [eb]
  refine ks_wpAt_execs_cons (ks_wpAt_Expr_any ?_ (hia _) (hsw _))
  rw [arm_eval_Call]
  refine PySem.wpAt_bind (ks_wpAt_mono (super_obj T S hsup hp hN hka hm0 M.nc I hσ hi M.sub (Q := fun ov s2 => ∃ so, ov = .ref so ∧ s2.heap.get? so = some (PySem.W.ks_superObj D x C) ∧ Inv (ncx CX P w K mg base N F f A outer s H E) [] (startF N vs [some (.ref D)]) H s2) fun so s2 hso I2 => ⟨so, rfl, hso, I2⟩) (fun ov s2 got => ?_) fun _ _ z => z)
  obtain ⟨so, rfl, hso, I2⟩ := got
  refine PySem.wpAt_of_wpAny (wpAny_bind (wpAny_standAt ?_))
  have call_ : ∀ q s3, H q = none → Inv (ncx CX P w K mg base N F f A outer s H E) [] (startF N vs [some (.ref D)]) (upd H q (.met g x)) s3 → wpAny (model P w) (A.deeper (envF F f s.heap.objs.size)) (callWith pos (.ref q) [] (backTo pos [(false, eval e1 (envF F f s.heap.objs.size)), (true, eval e2 (envF F f s.heap.objs.size))]) [])
      (EP (ncx CX P w K mg base N F f A outer s H E) [] (startF N vs [some (.ref D)]) fun _ H2 => Q .non H2) (ncx CX P w K mg base N F f A outer s H E).xe s3 := fun q s3 hq I3 => by
    have := met_call (pos := pos) (X := ncx CX P w K mg base N F f A outer s H E) (ha A outer s H E) FR hr (hx A outer s H E) M.fi I3 (ht q hq) (hst _)
    rw [show starEach [e1, .Starred e2 p2] (ncx CX P w K mg base N F f A outer s H E).env = _ from hst _] at this
    exact this
  have form : methodCallForm ([e1, Expr.Starred e2 p2].length + ([] : List Keyword).length) (backTo pos [(false, eval e1 (envF F f s.heap.objs.size)), (true, eval e2 (envF F f s.heap.objs.size))]) [] = false := rfl
  have kws : backToKw pos (keywordEach [] (envF F f s.heap.objs.size)) = [] := rfl
  rw [hst, kws]
  unfold methodCall
  rw [form]
  have cal : calleeOf false (.Call (.Name "super" p0) [] [] p1) (envF F f s.heap.objs.size) (.ref so) m = (getAttr (.ref so) m true >>= fun v => pure (v, [])) := rfl
  have cpos : methodCallPos false (.Call (.Name "super" p0) [] [] p1) (envF F f s.heap.objs.size) apos pos = pure pos := rfl
  rw [cal, cpos]
  refine wpAny_bind (wpAny_holding (wpAny_bind (super_attr M I2 hso hi fun q s3 hq I3 => wpAny_pure ?_)))
  refine wpAny_bind (wpAny_pure (show _ from ?_))
  refine wpAny_mono (call_ q s3 hq I3) (fun u s4 got => ?_) fun _ _ z => z
  obtain ⟨v, H4, I4, _, hq4⟩ := got
  exact fun _ _ _ _ => ⟨H4, I4, hq4⟩
end
end KU
set_option Elab.async false
set_option linter.all false
set_option maxRecDepth 100000
set_option maxHeartbeats 4000000
namespace KU
open PySem PySem.Spec PyProof.Rows L2 NdefX
theorem vals_split : ∀ {xs ys : List V} {us : List Value}, Vals (xs ++ ys) us → ∃ u1 u2, us = u1 ++ u2 ∧ Vals xs u1 ∧ Vals ys u2
  | [], ys, us, h => ⟨[], us, rfl, .nil, h⟩
  | x :: xs, ys, us, h => by
    cases h with
    | cons hx hr =>
      obtain ⟨u1, u2, rfl, h1, h2⟩ := vals_split (xs := xs) hr
      exact ⟨_ :: u1, u2, rfl, .cons hx h1, h2⟩
/-- how a body ends -/
def EndG (X : Cx) (pins : List (Addr × Obj)) (Q : VK) (fl : Flow) (s' : Shared) : Prop := match fl with
  | .ret u => ∃ v σ H', Inv X pins σ H' s' ∧ RelV v u ∧ Q v H'
  | .next => ∃ σ H', Inv X pins σ H' s' ∧ Q .non H'
  | _ => False
section
variable {CX : CXT} {P : Program} {w : World} {K : PySem.W.Frag} {mg : Str → Option Value} {base : Heap} {N as fr : List Str} {pv : Str} {ws : List (Option V)} {F : NF} {f : Addr} {fd : FuncData} {k nmax : Nat} {sp : Sp}
  {oc dV kV doc pm ct : Value} {od an : Option Addr} {osl : Array (Option Value)}
/-- def f(a, .., *r), with cells or without: its body at a known place. The star's tuple is laid at the call -/
theorem fn_atV (lk : K.lookup f = some ⟨oc, od, .func fd, osl⟩) (hfd : fd = PySem.W.fnX F.name F.qual F.params F.body F.scope F.cl dV kV doc pm an (.ref F.c) ct) (hcd : PySem.W.codeIn K (.ref F.c) F.qual = true) (S : NScope N (as ++ [pv]) fr F.scope)
    (cells : ∀ (s : Shared) (H : Hp), K.In s.heap → (∀ b o, K.lookup b = some o → H b = none) → CellsAt F.cl fr ws s.heap H) (hz : nmax ≤ sizeLine)
    (hb : ∀ us rest : List Value, us.length = as.length → rest.length ≤ nmax → bindArgs fd ⟨us ++ rest, []⟩ = (newTuple rest >>= fun t => pure ((as ++ [pv]).zip (us ++ [t])))) (hCX : CXNew CX)
    (hbody : ∀ (A : Around) (outer : List Env) (s : Shared) (H : Hp) (vs : List V) (Q : VK) (E : XK) (s1 : Shared), Room k (A.deeper (envF F f s.heap.objs.size)) → sp vs H Q E → Inv (ncx CX P w K mg base N F f A outer s H E) [] (startF N vs ws) H s1 →
      _root_.PySem.wpAt (model P w) (A.deeper (envF F f s.heap.objs.size)) (.func F.body (envF F f s.heap.objs.size)) (execs F.body (envF F f s.heap.objs.size)) (EndG (ncx CX P w K mg base N F f A outer s H E) [] Q) (ncx CX P w K mg base N F f A outer s H E).xe s1) :
    FnR P w K mg base CX (k + 1) f (fun vs H Q E => ∃ xs rest, vs = xs ++ rest ∧ xs.length = as.length ∧ rest.length ≤ nmax ∧ ∀ p, H p = none → sp (xs ++ [.ref p]) (upd H p (.tup rest)) Q E) := by
  intro A outer s H us0 vs Q E hr e0 r hsp
  obtain ⟨xs, rest, rfl, hx, hl, hq⟩ := hsp
  obtain ⟨us, ur, rfl, r1, r2⟩ := vals_split r
  have lus : us.length = as.length := by rw [← r1.length]; exact hx
  have lur : ur.length ≤ nmax := by rw [← r2.length]; exact hl
  have keepsK : K.In s.heap := e0.mod.kin.keeps (fun b o z => (e0.bs b o z).left)
  have new0 : H s.heap.objs.size = none := e0.hok.fresh (Nat.le_refl _)
  have want := hq _ new0
  subst hfd
  refine codeAny_call_function hr.depth (keepsK _ _ lk) rfl S.co S.gen rfl (PySem.W.codeRec_of keepsK hcd) ?_
  rw [hb us ur lus lur]
  refine wpAny_bind (wpAny_newTuple ?_ (Nat.le_trans lur hz))
  obtain ⟨h2, e2⟩ : ∃ h2, h2 = s.heap.push ({ cls := .type "tuple", data := .seq ur.toArray } : Obj) := ⟨_, rfl⟩
  rw [← e2]
  have kp : ∀ b o, s.heap.get? b = some o → h2.get? b = some o := by
    intro b o z
    rw [e2]
    exact Heap.get?_push_of_some _ z
  have at2 : h2.get? s.heap.objs.size = some ({ cls := .type "tuple", data := .seq ur.toArray } : Obj) := by
    rw [e2]
    exact Heap.get?_push_size _ rfl
  have sz2 : s.heap.objs.size ≤ h2.objs.size := by
    rw [e2, Heap.size_push]
    exact Nat.le_succ _
  have ok2 : HOk P w (upd H s.heap.objs.size (.tup rest)) h2 := e0.hok.laid kp (Nat.le_refl _) ⟨Nat.le_trans hl hz, ur, r2, ⟨_, at2, rfl, _, rfl⟩⟩
  have un2 : Un (frs outer) [] H (upd H s.heap.objs.size (.tup rest)) s.heap h2 := Un.laid kp (Nat.le_refl _) new0
  have env2 : Env0 P w K mg base A outer { s with heap := h2 } (upd H s.heap.objs.size (.tup rest)) := by
    refine ⟨e0.frames, e0.mod, ?_, Nat.le_trans e0.bsz sz2, Heap.FunFrames.of_keeps (fun b o z _ => ⟨o, kp b o z, rfl⟩) e0.funs, ?_, ok2, e0.bare⟩
    · intro b o z
      have old := e0.bs b o z
      exact ⟨kp b o old.1, by rw [upd_ne (Nat.ne_of_lt (Heap.lt_size old.1))]; exact old.2⟩
    · intro b z
      obtain ⟨_, o, ho, _⟩ := e0.funs.mem z
      rw [upd_ne (Nat.ne_of_lt (Heap.lt_size ho))]
      exact e0.frf b z
  have keeps2 : K.In h2 := env2.mod.kin.keeps (fun b o z => (env2.bs b o z).left)
  have lim2 : h2.NoLimit := env2.mod.nolimit.keeps (fun b o z => (env2.bs b o z).left)
  have rel2 : Vals (xs ++ [.ref s.heap.objs.size]) (us ++ [.ref s.heap.objs.size]) := r1.append (.cons rfl .nil)
  have C := cells { s with heap := h2 } (upd H s.heap.objs.size (.tup rest)) keeps2 fun b o z => (env2.bs b o (env2.mod.kin _ _ z)).right
  refine wpAny_pure ?_
  refine wpAny_newFunctionEnv (s := { s with heap := h2 }) S.nocell ?_ ?_ S.kind
  · intro y hy
    exact S.par y.1 (List.of_mem_zip hy).1
  intro h3 hns hsb
  refine ⟨lim2.fresh _ hsb, ?_⟩
  refine (show codeAny _ _ (.func F.body (envF F f h2.objs.size)) _ _ from ks_codeAny_funcAt ?_)
  have kp3 : ∀ b o, h2.get? b = some o → h3.get? b = some o := by
    intro b o z
    exact hsb.extBut b o (Nat.ne_of_lt (Heap.lt_size z)) (Heap.get?_push_of_some _ z)
  have I := inv_startN (f := f) (CX := CX) (E := E) (tk := s.toks + ((as ++ [pv]).zip (us ++ [.ref s.heap.objs.size])).length) S hr.hd env2 (by rw [List.length_append, List.length_append, hx] <;> rfl) rel2 C hns kp3
  have run := hbody A outer { s with heap := h2 } (upd H s.heap.objs.size (.tup rest)) (xs ++ [.ref s.heap.objs.size]) Q E _ (hr.deeper _) want I
  refine ks_wpAt_mono run (fun fl s' hs => ?_) fun e s' hs => ?_
  · have fin : ∀ {σ' : L2.St} {H' : Hp} {v : V} {u : Value}, Inv (ncx CX P w K mg base N F f A outer { s with heap := h2 } (upd H s.heap.objs.size (.tup rest)) E) [] σ' H' s' → L2.RelV v u → Q v H' → CE outer P w H s Q u s' := by
      intro σ' H' v u J rv q
      exact ⟨v, H', J.os, J.bare, un2.trans J.base, J.hok, rv, q⟩
    cases fl with
    | ret u =>
      obtain ⟨v, σ', H', J, rv, q⟩ := hs
      exact fin J rv q
    | next =>
      obtain ⟨σ', H', J, q⟩ := hs
      exact fin (v := .non) (u := .none) J rfl q
    | brk => exact False.elim hs
    | cont => exact False.elim hs
  · refine wpAny_mono hs ?_ ?_
    · intro _ s2 z
      exact hCX outer s H h2 _ rest E e s2 kp (Nat.le_refl _) new0 z
    · intro e' s2 z
      exact hCX outer s H h2 _ rest E e' s2 kp (Nat.le_refl _) new0 z
end
end KU
set_option Elab.async false
set_option linter.all false
set_option maxRecDepth 100000
set_option maxHeartbeats 4000000
namespace KU
open PySem PySem.Spec PyProof.Rows L2 NdefX
section
variable {CX CX' : CXT} {P : Program} {w : World} {K : PySem.W.Frag} {mg : Str → Option Value} {base : Heap} {N ps : List Str} {F : NF} {f D cc g x C dx : Addr} {fs : List (Str × V)} {fd : FuncData} {k kk : Nat} {sp sp' : Sp}
  {p0 p1 p2 pos apos rp : Pos} {m : Str} {e1 e2 : Expr} {t : TA} {ar : Arg} {E E' : XK} {A : Around} {outer : List Env} {s s1 : Shared} {H H1 : Hp} {σ : L2.St} {Q : VK}
/-- super().m(x, *y) as a statement, at its place -/
theorem super_execS (T : SupF P K F D f cc fd) (S : NScope N ps ["__class__"] F.scope) (hbody : F.body = [.Expr (.Call (.Attribute (.Call (.Name "super" p0) [] [] p1) m apos) [e1, .Starred e2 p2] [] pos) rp])
    (hsup : F.scope.names.lookup ("super" : Str) = some .globalImplicit) (hp : (F.params.posonlyargs ++ F.params.args).head? = some ar) (hN : N[0]? = some ar.arg) (hka : F.scope.names.lookup ar.arg = some .local) (hm0 : mg "super" = none)
    (hsw : ∀ L, swapsWith (.Call (.Attribute (.Call (.Name "super" p0) [] [] p1) m apos) [e1, .Starred e2 p2] [] pos) none rp.line (envF F f L) = pure false) (hia : ∀ L, interactive (envF F f L) = false)
    (ha : PA (ncx CX P w K mg base N F f A outer s H E) [e1, .Starred e2 p2] t) (hst : ∀ L, starEach [e1, .Starred e2 p2] (envF F f L) = [(false, eval e1 (envF F f L)), (true, eval e2 (envF F f L))])
    (FR : FnR P w K mg base CX' kk g sp') (hx : Passes CX' (ncx CX P w K mg base N F f A outer s H E) E') (hr : Room kk (A.deeper (envF F f s.heap.objs.size)))
    (I : Inv (ncx CX P w K mg base N F f A outer s H E) [] σ H1 s1) (hσ : σ[0]? = some (some (.ref x))) (hi : H1 x = some (.ins C dx fs)) (M : SupM K C D m g)
    (ht : ∀ q, H1 q = none → t σ (upd H1 q (.met g x)) fun ws H2 => H2 q = some (.met g x) ∧ sp' (.ref x :: ws) H2 (fun _ H3 => Q .non H3) E') :
    _root_.PySem.wpAt (model P w) (A.deeper (envF F f s.heap.objs.size)) (.func F.body (envF F f s.heap.objs.size)) (execs F.body (envF F f s.heap.objs.size)) (EndF (ncx CX P w K mg base N F f A outer s H E) [] σ Q) (ncx CX P w K mg base N F f A outer s H E).xe s1 := by
  have eb : execs F.body (envF F f s.heap.objs.size) = execs [.Expr (.Call (.Attribute (.Call (.Name "super" p0) [] [] p1) m apos) [e1, .Starred e2 p2] [] pos) rp] (envF F f s.heap.objs.size) := by rw [hbody]
  rw [eb]
  refine ks_wpAt_execs_cons (ks_wpAt_Expr_any ?_ (hia _) (hsw _))
  rw [arm_eval_Call]
  refine PySem.wpAt_bind (ks_wpAt_mono (super_obj T S hsup hp hN hka hm0 M.nc I hσ hi M.sub (Q := fun ov s2 => ∃ so, ov = .ref so ∧ s2.heap.get? so = some (PySem.W.ks_superObj D x C) ∧ Inv (ncx CX P w K mg base N F f A outer s H E) [] (σ) H1 s2) fun so s2 hso I2 => ⟨so, rfl, hso, I2⟩) (fun ov s2 got => ?_) fun _ _ z => z)
  obtain ⟨so, rfl, hso, I2⟩ := got
  refine PySem.wpAt_of_wpAny (wpAny_bind (wpAny_standAt ?_))
  have call_ : ∀ q s3, H1 q = none → Inv (ncx CX P w K mg base N F f A outer s H E) [] (σ) (upd H1 q (.met g x)) s3 → wpAny (model P w) (A.deeper (envF F f s.heap.objs.size)) (callWith pos (.ref q) [] (backTo pos [(false, eval e1 (envF F f s.heap.objs.size)), (true, eval e2 (envF F f s.heap.objs.size))]) [])
      (EP (ncx CX P w K mg base N F f A outer s H E) [] (σ) fun _ H2 => Q .non H2) (ncx CX P w K mg base N F f A outer s H E).xe s3 := fun q s3 hq I3 => by
    have := met_call (pos := pos) (X := ncx CX P w K mg base N F f A outer s H E) ha FR hr hx M.fi I3 (ht q hq) (hst _)
    rw [show starEach [e1, .Starred e2 p2] (ncx CX P w K mg base N F f A outer s H E).env = _ from hst _] at this
    exact this
  have form : methodCallForm ([e1, Expr.Starred e2 p2].length + ([] : List Keyword).length) (backTo pos [(false, eval e1 (envF F f s.heap.objs.size)), (true, eval e2 (envF F f s.heap.objs.size))]) [] = false := rfl
  have kws : backToKw pos (keywordEach [] (envF F f s.heap.objs.size)) = [] := rfl
  rw [hst, kws]
  unfold methodCall
  rw [form]
  have cal : calleeOf false (.Call (.Name "super" p0) [] [] p1) (envF F f s.heap.objs.size) (.ref so) m = (getAttr (.ref so) m true >>= fun v => pure (v, [])) := rfl
  have cpos : methodCallPos false (.Call (.Name "super" p0) [] [] p1) (envF F f s.heap.objs.size) apos pos = pure pos := rfl
  rw [cal, cpos]
  refine wpAny_bind (wpAny_holding (wpAny_bind (super_attr M I2 hso hi fun q s3 hq I3 => wpAny_pure ?_)))
  refine wpAny_bind (wpAny_pure (show _ from ?_))
  refine wpAny_mono (call_ q s3 hq I3) (fun u s4 got => ?_) fun _ _ z => z
  obtain ⟨v, H4, I4, _, hq4⟩ := got
  exact fun _ _ _ _ => ⟨H4, I4, hq4⟩
end
theorem EndF.g {X : Cx} {pins : List (Addr × Obj)} {σ : L2.St} {Q : VK} {fl : Flow} {s' : Shared} (h : EndF X pins σ Q fl s') : EndG X pins Q fl s' := by
  cases fl with
  | ret u =>
    obtain ⟨v, H', I, r, q⟩ := h
    exact ⟨v, σ, H', I, r, q⟩
  | next =>
    obtain ⟨H', I, q⟩ := h
    exact ⟨σ, H', I, q⟩
  | brk => exact h
  | cont => exact h
/-- the class's cell -/
theorem cells_class {P : Program} {K : PySem.W.Frag} {F : NF} {D f cc : Addr} {fd : FuncData} (T : SupF P K F D f cc fd) (s : Shared) (H : Hp) (keeps : K.In s.heap) (off : ∀ b o, K.lookup b = some o → H b = none) : CellsAt F.cl ["__class__"] [some (.ref D)] s.heap H := by
  obtain ⟨cl0, cld, csl, lc⟩ := T.cell
  have hc : s.heap.get? cc = some ⟨cl0, cld, .cell (some (.ref D)), csl⟩ := keeps _ _ lc
  rw [T.cl]
  have look : ∀ y c, List.lookup y [(("__class__" : Str), cc)] = some c → c = cc ∧ y = "__class__" := by
    intro y c e
    cases List.mem_singleton.mp (PySem.mem_of_lookup e)
    exact ⟨rfl, rfl⟩
  refine ⟨rfl, ?_, ?_, ?_⟩
  · intro y c e
    rw [(look y c e).1]
    exact ⟨off _ _ lc, _, _, hc, rfl⟩
  · intro x y c e1 e2
    rw [(look x c e1).2, (look y c e2).2]
  · intro i y e
    match i, e with
    | 0, e =>
      cases e
      exact ⟨cc, rfl, fun v hv => by cases hv; exact ⟨_, rfl, _, hc, rfl⟩⟩
theorem cells_none (s : Shared) (H : Hp) : CellsAt [] [] [] s.heap H := ⟨rfl, fun _ _ z => (nomatch z), fun _ _ _ z => (nomatch z), fun i _ z => by cases i <;> cases z⟩
section
variable {CX CX' : CXT} {P : Program} {w : World} {K : PySem.W.Frag} {mg : Str → Option Value} {base : Heap} {N as : List Str} {pv : Str} {F : NF} {f D cc g : Addr} {fd : FuncData} {k nmax : Nat} {sp sp' : Sp}
  {p0 p1 p2 pos apos rp : Pos} {m : Str} {e1 e2 : Expr} {t : TA} {ar : Arg} {E' : XK → XK} {oc dV kV doc pm ct : Value} {od an : Option Addr} {osl : Array (Option Value)}
/-- def m(self, .., *r): super().m(x, *y) -/
theorem fn_superV (T : SupF P K F D f cc fd) (S : NScope N (as ++ [pv]) ["__class__"] F.scope) (hbody : F.body = [.Expr (.Call (.Attribute (.Call (.Name "super" p0) [] [] p1) m apos) [e1, .Starred e2 p2] [] pos) rp]) (hz : nmax ≤ sizeLine)
    (hb : ∀ us rest : List Value, us.length = as.length → rest.length ≤ nmax → bindArgs fd ⟨us ++ rest, []⟩ = (newTuple rest >>= fun t => pure ((as ++ [pv]).zip (us ++ [t])))) (hCX : CXNew CX)
    (hsup : F.scope.names.lookup ("super" : Str) = some .globalImplicit) (hp : (F.params.posonlyargs ++ F.params.args).head? = some ar) (hN : N[0]? = some ar.arg) (hka : F.scope.names.lookup ar.arg = some .local) (hm0 : mg "super" = none)
    (hsw : ∀ L, swapsWith (.Call (.Attribute (.Call (.Name "super" p0) [] [] p1) m apos) [e1, .Starred e2 p2] [] pos) none rp.line (envF F f L) = pure false) (hia : ∀ L, interactive (envF F f L) = false)
    (ha : ∀ A outer s H E, PA (ncx CX P w K mg base N F f A outer s H E) [e1, .Starred e2 p2] t) (hst : ∀ L, starEach [e1, .Starred e2 p2] (envF F f L) = [(false, eval e1 (envF F f L)), (true, eval e2 (envF F f L))])
    (FR : FnR P w K mg base CX' k g sp') (hx : ∀ A outer s H E, Passes CX' (ncx CX P w K mg base N F f A outer s H E) (E' E))
    (want : ∀ vs H Q E, sp vs H Q E → ∃ x C dx fs, vs[0]? = some (.ref x) ∧ H x = some (.ins C dx fs) ∧ SupM K C D m g ∧ ∀ q, H q = none → t (startF N vs [some (.ref D)]) (upd H q (.met g x)) fun ws H1 => H1 q = some (.met g x) ∧ sp' (.ref x :: ws) H1 (fun _ H2 => Q .non H2) (E' E)) :
    FnR P w K mg base CX (k + 1) f (fun vs H Q E => ∃ xs rest, vs = xs ++ rest ∧ xs.length = as.length ∧ rest.length ≤ nmax ∧ ∀ p, H p = none → sp (xs ++ [.ref p]) (upd H p (.tup rest)) Q E) := by
  obtain ⟨kV, doc, pm, ct, an, efd⟩ := T.fd_
  obtain ⟨oc, od, osl, lk⟩ := T.fn
  refine fn_atV lk efd T.code S (fun s H => cells_class T s H) hz hb hCX fun A outer s H vs Q E s1 hr hsp I => ?_
  obtain ⟨x, C, dx, fs, h0, hi, M, ht⟩ := want _ _ _ _ hsp
  have hσ : (startF N vs [some (.ref D)])[0]? = some (some (.ref x)) := by
    cases vs with
    | nil => cases h0
    | cons v r =>
      cases h0
      rfl
  exact ks_wpAt_mono (super_execS T S hbody hsup hp hN hka hm0 hsw hia (ha A outer s H E) hst FR (hx A outer s H E) hr I hσ hi M ht) (fun _ _ z => z.g) fun _ _ z => z
/-- def f(a, .., *r), by its body -/
theorem fn_star (lk : K.lookup f = some ⟨oc, od, .func fd, osl⟩) (hfd : fd = PySem.W.fnX F.name F.qual F.params F.body F.scope F.cl dV kV doc pm an (.ref F.c) ct) (hcd : PySem.W.codeIn K (.ref F.c) F.qual = true) (hcl : F.cl = []) (S : NScope N (as ++ [pv]) [] F.scope) (hz : nmax ≤ sizeLine)
    (hb : ∀ us rest : List Value, us.length = as.length → rest.length ≤ nmax → bindArgs fd ⟨us ++ rest, []⟩ = (newTuple rest >>= fun t => pure ((as ++ [pv]).zip (us ++ [t])))) (hCX : CXNew CX)
    (hbody : ∀ (A : Around) (outer : List Env) (s : Shared) (H : Hp) (vs : List V) (Q : VK) (E : XK), Room k (A.deeper (envF F f s.heap.objs.size)) → sp vs H Q E →
      ∃ t, PSs (ncx CX P w K mg base N F f A outer s H E) F.body t ∧ t { nx := fun _ H' => Q .non H', rt := Q } (startF N vs []) H) :
    FnR P w K mg base CX (k + 1) f (fun vs H Q E => ∃ xs rest, vs = xs ++ rest ∧ xs.length = as.length ∧ rest.length ≤ nmax ∧ ∀ p, H p = none → sp (xs ++ [.ref p]) (upd H p (.tup rest)) Q E) := by
  refine fn_atV lk hfd hcd S (fun s H _ _ => by rw [hcl]; exact cells_none s H) hz hb hCX fun A outer s H vs Q E s1 hr hsp I => ?_
  obtain ⟨t, ht, want⟩ := hbody A outer s H vs Q E hr hsp
  refine PySem.wpAt_of_wpAny (wpAny_mono (ht.run [] _ _ _ _ I want) (fun fl s' got => ?_) fun _ _ z => z)
  cases fl with
  | ret u =>
    obtain ⟨v, σ', H', J, rv, q⟩ := got
    exact ⟨v, σ', H', J, rv, q⟩
  | next =>
    obtain ⟨σ', H', J, q⟩ := got
    exact ⟨σ', H', J, q⟩
  | brk =>
    obtain ⟨_, _, _, q⟩ := got
    exact False.elim q
  | cont =>
    obtain ⟨_, _, _, q⟩ := got
    exact False.elim q
end
end KU
set_option Elab.async false
set_option linter.all false
namespace KU
open PySem PySem.Spec PyProof.Rows L2 NdefX
/-- a def with *star that raises -/
theorem cxnew {P : Program} {w : World} : L2.CXNew (L2.CX P w) := by
  intro outer s H h2 p rest E e s' kp hp new0 z
  obtain ⟨a, B, H', cls, d, rfl, fl, ok, ub, na, os, ab, ex⟩ := z
  have ne : ∀ b o, s.heap.get? b = some o → b ≠ p := fun b o hb => Nat.ne_of_lt (Nat.lt_of_lt_of_le (Heap.lt_size hb) hp)
  refine ⟨a, B, H', cls, d, rfl, fl, ok, ?_, na, os, ab, ex⟩
  have nn : ∀ b x, H b = some x → b ≠ p := fun b x hb z => by
    rw [z, new0] at hb
    exact nomatch hb
  exact { keep := fun b o hb hn hf => ub.keep b o (kp b o hb) (by rw [upd_ne (ne b o hb)]; exact hn) hf
          slot := fun b o hb hf => ub.slot b o (kp b o hb) hf
          free := fun b o hb hn => ub.free b o (kp b o hb) (by rw [upd_ne (ne b o hb)]; exact hn)
          there := fun b o hb hf => ub.there b o (kp b o hb) hf
          tups := fun b xs hb => ub.tups b xs (by rw [upd_ne (nn b _ hb)]; exact hb)
          frzs := fun b o xs hb => ub.frzs b o xs (by rw [upd_ne (nn b _ hb)]; exact hb)
          tbls := fun b ps hb => ub.tbls b ps (by rw [upd_ne (nn b _ hb)]; exact hb) }
end KU
set_option Elab.async false
set_option linter.all false
set_option maxRecDepth 100000
set_option maxHeartbeats 4000000
namespace KV
open PySem PySem.Spec PyProof.Rows L2 Evl KF
namespace Rt
open PySem PySem.W
variable {prog : Program} {w : World} {K : Frag} {A : Around} {E : Value → Shared → Prop} {s : Shared} {x y C C2 f : Addr} {ox oy : Obj} {od od2 : Option Obj}
theorem rich_right {Q : Value → Shared → Prop} (hu : A.units + 1 < cLine) (X : K.In s.heap) (I : InstAt s.heap x ox C od) (J : InstAt s.heap y oy C2 od2) (ne : C ≠ C2) (hm : mroIn K C2 (.ref C) = some true)
    (hs : findIn K (.ref C2) "__eq__" = some (some (.ref f))) (hf : isFn K (.ref f) = true)
    (h : wpAny (model prog w) A (call (.ref f) [.ref y, .ref x]) (fun v s' => ∃ b, v = .bool b ∧ Q (.bool b) s') E s) : wpAny (model prog w) A (richCompare .Eq (.ref x) (.ref y)) Q E s := by
  have one : wpAny (model prog w) A (tryCompare (.ref y) "__eq__" (.ref x)) (fun r s' => ∃ b, r = some (.bool b) ∧ Q (.bool b) s') E s := by
    unfold tryCompare
    refine wpAny_bind (ifBound_K X J hs hf (wpAny_mono h (fun v s' hv => ?_) fun _ _ e => e))
    obtain ⟨b, rfl, hq⟩ := hv
    first | exact ⟨b, rfl, wpAny_pure ⟨b, rfl, hq⟩⟩ | exact ⟨b, rfl, wpAny_pure (wpAny_pure hq)⟩ | exact wpAny_pure ⟨b, rfl, hq⟩ | exact ⟨b, rfl, ⟨b, rfl, hq⟩⟩
  unfold richCompare
  simp only [oneThing_ref]
  refine wpAny_holding (wpAny_bind (wpAny_cRoomFor (Nat.lt_of_succ_lt hu) ?_))
  rw [show (cmpInfo CmpOp.Eq).2.snd = "__eq__" from rfl]
  refine wpAny_bind (I.type.here (wpAny_bind (J.type.here ?_)))
  rw [show (Value.ref C != Value.ref C2) = true from by simp [ne]]
  simp only [if_true]
  refine wpAny_bind ((looks_mroIn X hm).here ?_)
  simp only [if_true]
  refine wpAny_bind (wpAny_mono one (fun r s' z => ?_) fun _ _ e => e)
  obtain ⟨b, rfl, hq⟩ := z
  first | exact wpAny_pure hq | exact wpAny_pure (wpAny_pure hq) | exact wpAny_bind (wpAny_rule (wpAny_pure hq)) | (refine wpAny_bind ?_; wp_step; exact wpAny_pure hq)
end Rt
open PySem
/-- x == y, y an own instance of a class below x's own: y's own __eq__ goes first -/
def rOwnRF (C C2 : Addr) (sp : Sp) (E : XK) : R2 := fun x y H Q => ∃ (p dx : Addr) (fs : List (Str × V)) (q dy : Addr) (gs : List (Str × V)), x = .ref p ∧ y = .ref q ∧ H p = some (.ins C dx fs) ∧ H q = some (.ins C2 dy gs) ∧ sp [y, x] H (fun v H' => ∃ b, v = .bl b ∧ Q (.bl b) H') E
section
variable {X : Cx} {CX : CXT} {C C2 g : Addr} {n : Nat} {sp : Sp} {E : XK}
theorem op_ownRF (ne : C ≠ C2) (hm : PySem.W.mroIn X.K C2 (.ref C) = some true) (hs : PySem.W.findIn X.K (.ref C2) "__eq__" = some (some (.ref g))) (hf : PySem.W.isFn X.K (.ref g) = true)
    (F : FnR X.prog X.w X.K X.mg X.base CX n g sp) (room : Room n X.A) (hx : Passes CX X E) : OpR X (compareOp .Eq) (rOwnRF C C2 sp E) := by
  intro pins s σ H x y v u Q I rx ry told
  obtain ⟨p, dx, fs, q, dy, gs, rfl, rfl, hp, hq, want⟩ := told
  obtain rfl : v = Value.ref p := rx
  obtain rfl : u = Value.ref q := ry
  obtain ⟨o1, d1, J1, _⟩ := StX.insC_at (X := X) I (.inr ⟨dx, fs, hp⟩)
  obtain ⟨o2, d2, J2, _⟩ := StX.insC_at (X := X) I (.inr ⟨dy, gs, hq⟩)
  have hu : X.A.units + 1 < cLine := by have := room.units; have := room.units0; omega
  show wpAny (model X.prog X.w) X.A (richCompare .Eq (.ref p) (.ref q)) _ _ _
  refine Rt.rich_right hu I.kIn J1 J2 ne hm hs hf (wpAny_mono (wpAny_call (SlX.run_at (us := [.ref q, .ref p]) (ws := [.ref q, .ref p]) F room I.env0 hx I (.cons rfl (.cons rfl .nil)) want)) (fun r s' got => ?_) fun _ _ same => same)
  obtain ⟨z, H', I', rz, b, rfl, want2⟩ := got
  obtain rfl : r = Value.bool b := rz
  exact ⟨b, rfl, .bl b, H', I', rfl, want2⟩
end
end KV
set_option linter.all false
namespace KV
open PySem PyProof.Rows
theorem ltC_nil_nil : Spec.ltCps [] [] = false := rfl
theorem ltC_cons_nil (a : Nat) (x : List Nat) : Spec.ltCps (a :: x) [] = false := rfl
theorem ltC_nil_cons (a : Nat) (x : List Nat) : Spec.ltCps [] (a :: x) = true := rfl
theorem ltC_cons (a b : Nat) (x y : List Nat) : Spec.ltCps (a :: x) (b :: y) = (if a = b then Spec.ltCps x y else decide (a < b)) := by
  simp only [Spec.ltCps]
  first | rfl | (split <;> simp_all) | skip
theorem le_trans_ltC : ∀ (x y z : List Nat), Spec.ltCps y x = false → Spec.ltCps z y = false → Spec.ltCps z x = false
  | [], _, [], _, _ => rfl
  | [], _, _ :: _, _, _ => rfl
  | _ :: _, [], _, h, _ => by simp [ltC_nil_cons] at h
  | _ :: _, _ :: _, [], _, h => by simp [ltC_nil_cons] at h
  | a :: x, b :: y, c :: z, h1, h2 => by
    rw [ltC_cons] at *
    by_cases e1 : b = a
    · subst e1
      rw [if_pos rfl] at h1
      by_cases e2 : c = b
      · subst e2
        rw [if_pos rfl] at h2 ⊢
        exact le_trans_ltC x y z h1 h2
      · rw [if_neg e2] at h2 ⊢
        exact h2
    · rw [if_neg e1] at h1
      have h1' := of_decide_eq_false h1
      by_cases e2 : c = b
      · subst e2
        rw [if_neg e1]
        exact h1
      · rw [if_neg e2] at h2
        have h2' := of_decide_eq_false h2
        rw [if_neg (by omega)]
        exact decide_eq_false (by omega)
theorem antisymm_ltC : ∀ (x y : List Nat), Spec.ltCps y x = false → Spec.ltCps x y = false → x = y
  | [], [], _, _ => rfl
  | [], _ :: _, _, h => by simp [ltC_nil_cons] at h
  | _ :: _, [], h, _ => by simp [ltC_nil_cons] at h
  | a :: x, b :: y, h1, h2 => by
    rw [ltC_cons] at *
    by_cases e : a = b
    · subst e
      rw [if_pos rfl] at h1 h2
      rw [antisymm_ltC x y h1 h2]
    · rw [if_neg (fun h => e h.symm)] at h1
      rw [if_neg e] at h2
      have := of_decide_eq_false h1
      have := of_decide_eq_false h2
      omega
def leS (a b : Str) : Prop := Spec.ltCps b.cps.toList a.cps.toList = false
theorem leS_trans {a b c : Str} (h : leS a b) (k : leS b c) : leS a c := le_trans_ltC _ _ _ h k
theorem leS_antisymm {a b : Str} (h : leS a b) (k : leS b a) : a = b := by
  have := antisymm_ltC _ _ h k
  cases a; cases b
  simp only [Str.mk.injEq]
  exact Array.toList_inj.mp this
theorem risingS_nil (x : Str) : risingS x [] = true := rfl
theorem pairwise_of_risingS : ∀ (l : List Str) (x : Str), risingS x l = true → (x :: l).Pairwise leS
  | [], x, _ => List.pairwise_singleton _ _
  | y :: r, x, h => by
    have h' : (!Spec.ltCps y.cps.toList x.cps.toList && risingS y r) = true := h
    rw [Bool.and_eq_true] at h'
    have ih := pairwise_of_risingS r y h'.2
    have xy : leS x y := by
      have := h'.1
      unfold leS
      cases hh : Spec.ltCps y.cps.toList x.cps.toList <;> simp_all
    refine List.pairwise_cons.mpr ⟨fun z hz => ?_, ih⟩
    rcases List.mem_cons.mp hz with rfl | hz
    · exact xy
    · exact leS_trans xy ((List.pairwise_cons.mp ih).1 z hz)
theorem pairwise_of_sortedS {l : List Str} (h : sortedS l = true) : l.Pairwise leS := by
  cases l with
  | nil => exact .nil
  | cons x r => exact pairwise_of_risingS r x h
/-- two sorted lists with the same items are one -/
theorem sorted_unique {a b : List Str} (ha : sortedS a = true) (hb : sortedS b = true) (p : a.Perm b) : a = b :=
  List.Perm.eq_of_pairwise (fun _ _ _ _ => leS_antisymm) (pairwise_of_sortedS ha) (pairwise_of_sortedS hb) p
/-- sorted(xs) = sorted(ys) just where ys is xs turned about -/
theorem sorted_eq_iff {a b xs ys : List Str} (ha : sortedS a = true) (pa : a.Perm xs) (hb : sortedS b = true) (pb : b.Perm ys) : (a = b) ↔ xs.Perm ys :=
  ⟨fun e => pa.symm.trans (e ▸ pb), fun p => sorted_unique ha hb (pa.trans (p.trans pb.symm))⟩
end KV
set_option Elab.async false
set_option linter.all false
namespace KV
open PySem PySem.Spec PyProof.Rows L2 Evl KF
/-! lists and tuples of texts, compared -/
theorem lay_strs : ∀ ss : List Str, (∀ s ∈ ss, PyData.strOk s = true) → PyData.canLayAll0 (ss.map PyData.str) = true
  | [], _ => rfl
  | s :: ss, h => by
    have ih := lay_strs ss fun x hx => h x (List.mem_cons_of_mem _ hx)
    have := h s (List.mem_cons_self ..)
    simp [PyData.canLayAll0, PyData.canLay0, ih, this]
theorem depth_strs : ∀ ss : List Str, PyData.depthAll (ss.map PyData.str) = 0
  | [] => by simp [PyData.depthAll]
  | s :: ss => by simp [PyData.depthAll, PyData.depth, depth_strs ss]
theorem shaped_strs {ss : List Str} (h : ∀ s ∈ ss, PyData.strOk s = true) : SeqAt.shaped (.tuple (ss.map PyData.str)) = true ∧ SeqAt.shaped (.list (ss.map PyData.str)) = true := by
  have l := lay_strs ss h
  constructor
  · unfold SeqAt.shaped
    simp [PyData.canLay0, PyData.depth, l, depth_strs]
  · unfold SeqAt.shaped
    simp [PyData.canLay0, PyData.depth, l, depth_strs]
theorem eqv_strs : ∀ a b : List Str, PyData.eqvAll (a.map PyData.str) (b.map PyData.str) = decide (a = b)
  | [], [] => by simp [PyData.eqvAll, PyData.eqv]
  | [], _ :: _ => by simp [PyData.eqvAll, PyData.eqv]
  | _ :: _, [] => by simp [PyData.eqvAll, PyData.eqv]
  | x :: a, y :: b => by
    have := eqv_strs a b
    simp only [List.map_cons, PyData.eqvAll, PyData.eqv, this]
    by_cases h : x = y <;> by_cases h2 : a = b <;> simp [h, h2]
theorem dp_strs {K : PySem.W.Frag} {H : Hp} : ∀ ns : List Str, DpAll K H (ns.map V.str) (ns.map PyData.str)
  | [] => .nil
  | n :: ns => .cons (.str n) (dp_strs ns)
theorem rv_eqLS {K : PySem.W.Frag} {H : Hp} {p q : Addr} {xs ys : List Str} (h1 : H p = some (.lst (xs.map V.str))) (h2 : H q = some (.lst (ys.map V.str))) (o1 : ∀ s ∈ xs, PyData.strOk s = true) (o2 : ∀ s ∈ ys, PyData.strOk s = true) : RV (rEqD K) (.ref p) (.ref q) H (.bl (decide (xs = ys))) := fun H1 e Q k =>
  ⟨.list (xs.map PyData.str), .list (ys.map PyData.str), .lst (sq_of (e _ _ h1)) (dp_strs xs), .lst (sq_of (e _ _ h2)) (dp_strs ys), (shaped_strs o1).2, (shaped_strs o2).2, by
    rw [show PyData.eqv (.list (xs.map PyData.str)) (.list (ys.map PyData.str)) = PyData.eqvAll (xs.map PyData.str) (ys.map PyData.str) by simp [PyData.eqv], eqv_strs]
    exact k H1 (Ex.refl H1)⟩
end KV
set_option Elab.async false
set_option linter.all false
set_option maxHeartbeats 4000000
namespace KV
open PySem PySem.Spec PyProof.Rows L2
/-! sorted(a tuple of texts) -/
theorem inv_in1 {X : Cx} {pins : List (Addr × Obj)} {σ : L2.St} {H : Hp} {s : Shared} (I : L2.Inv X pins σ H s) : L2.Inv { X with A := X.A.in1 } pins σ H s :=
  { ok := { mod := I.ok.mod, kind := I.ok.kind, glob := I.ok.glob, blt := I.ok.blt, above := I.ok.above, inj := I.ok.inj, has := I.ok.has, cab := I.ok.cab
            hd := fun h => by have := I.ok.hd h; simpa using this
            frames := by have := I.ok.frames; simpa using this
            stk := I.ok.stk, exf := I.ok.exf, bs := I.ok.bs, bsz := I.ok.bsz, noex := I.ok.noex, exfs := I.ok.exfs, funs := I.ok.funs, frf := I.ok.frf }
    os := I.os, bare := I.bare, base := I.base, loc := I.loc, cell := I.cell, free := I.free, freeC := I.freeC, pin := I.pin, hok := I.hok, len := I.len }
theorem inv_out1 {X : Cx} {pins : List (Addr × Obj)} {σ : L2.St} {H : Hp} {s s0 : Shared} {H0 : Hp} (I0 : L2.Inv X pins σ H0 s0) (I : L2.Inv { X with A := X.A.in1 } pins σ H s) : L2.Inv X pins σ H s :=
  { ok := I0.ok, os := I.os, bare := I.bare, base := I.base, loc := I.loc, cell := I.cell, free := I.free, freeC := I.freeC, pin := I.pin, hok := I.hok, len := I.len }
def rSortedST (K : PySem.W.Frag) : List V → Hp → VK → Prop := fun vs H Q => ∃ (a : Addr) (xs : List Str), vs = [.ref a] ∧ SqT K H a (xs.map V.str) ∧ xs.length < 64 ∧ ∀ (ys : List Str) (p : Addr), ys.Perm xs → sortedS ys = true → H p = none → Q (.ref p) (upd H p (.lst (ys.map V.str)))
/-- collect of a tuple: what was stays, the heap grows -/
theorem collect_tup {P : Program} {w : World} {A : Around} {E : Value → Shared → Prop} {s : Shared} {Q : List Value → Shared → Prop} {a : Addr} {o : Obj} {items : Array Value} {n : Nat} (ho : s.heap.get? a = some o) (hc : o.cls = .type "tuple") (hd : o.data = .seq items n) (hz : items.size ≤ sizeLine)
    (hQ : ∀ h' : Heap, (∀ (b : Addr) (u : Obj), s.heap.get? b = some u → h'.get? b = some u) → s.heap.objs.size ≤ h'.objs.size → Q items.toList { heap := h', gens := s.gens, drawn := s.drawn, toks := s.toks, os := s.os }) : wpAny (model P w) A (collect (.ref a)) Q E s := by
  let l0 : Obj := { cls := .type "list", data := .seq ([] : List Value).toArray }
  let h1 : Heap := s.heap.push l0
  let h2 : Heap := h1.update s.heap.objs.size (Obj.mapSeq (· ++ items))
  have g1 : h1.get? s.heap.objs.size = some { cls := .type "list", data := .seq #[] 0 } := Heap.get?_push_size _ rfl
  have g2 := Heap.get?_update_self (Obj.mapSeq (· ++ items)) g1 rfl
  have kp : ∀ (b : Addr) (u : Obj), s.heap.get? b = some u → h2.get? b = some u := fun b u hb =>
    (Heap.get?_update_other _ _ (Nat.ne_of_gt (Heap.lt_size hb))).trans (Heap.get?_push_of_some _ hb)
  have ge : s.heap.objs.size ≤ h2.objs.size := by
    have e1 : h1.objs.size = s.heap.objs.size + 1 := Heap.size_push ..
    have e2 : h2.objs.size = h1.objs.size := by
      first | exact Heap.size_update .. | simp [h2, Heap.update]
    omega
  have last : wpAny (model P w) A (load s.heap.objs.size >>= fun o => match o.data with
          | Data.seq xs _ => pure xs.toList
          | _ => unsupported "internal:collect") Q E { s with heap := h2 } := wpAny_bind (wpAny_load g2 (wpAny_pure (by
    have e : ((#[] : Array Value) ++ items).toList = items.toList := by simp
    show Q ((#[] : Array Value) ++ items).toList _
    rw [e]
    exact hQ h2 kp ge)))
  unfold collect
  refine wpAny_bind (wpAny_runValue (codeAny_builtin PySem.F.entry_proto_collect (by
    rw [Around.under_plainId PySem.F.plain_proto_collect _]
    show wpAny _ A.in1 (newList [] >>= fun l => again (.builtin "list.__iadd__" ⟨[l, .ref a], []⟩)) _ _ s
    refine wpAny_bind (wpAny_newObj_type (wpAny_pure ⟨plainId_quiet PySem.F.plain_list_iadd _, codeAny_builtin PySem.F.entry_list_iadd ?_⟩))
    rw [Around.under_plainId PySem.F.plain_list_iadd _]
    refine wpAny_mono (wpAny_extend_seq (hsz := hz) (A := A) (R := fun r s' => r = .ok (.ret (.ref s.heap.objs.size)) ∧ s' = { s with heap := h2 }) (s := { s with heap := h1 }) _ a _ 0 (.inr rfl) g1 (Heap.get?_push_of_some _ ho) hc hd ⟨rfl, rfl⟩) (fun fin s' h => ?_) fun e s' h => absurd h.1 (by simp)
    cases fin with
    | done f =>
      obtain ⟨z, rfl⟩ := h
      cases z
      exact last
    | again c' => exact ⟨h.1, codeAny_mono h.2 fun r s'' hr => by obtain ⟨rfl, rfl⟩ := hr; exact last⟩)))
theorem cr_sortedST {X : Cx} : CallR X (.builtin "sorted") (rSortedST X.K) := by
  intro pins s σ H vs us Q I r h
  obtain ⟨a, xs, rfl, hs, hl, q⟩ := h
  obtain ⟨its, rv, ht, _⟩ := I.tuple hs
  rw [Vals.ref1 r]
  have ht : s.heap.IsTuple a its.toArray := ht
  obtain ⟨o, ho, hcl, n, hd⟩ := id ht
  have hlen : its.length = xs.length := by rw [← rv.length, List.length_map]
  have small : its.length ≤ sizeLine := Nat.le_trans (by omega : its.length ≤ 64) (by decide)
  refine wpAny_call (codeAny_call_builtin plain_sorted entry_sorted ?_)
  unfold checkBuiltinCall
  rw [kind_sorted]
  have ok := args_sorted1 (.ref a)
  dsimp only
  refine wpAny_of_eq ok ?_
  unfold Builtin.sorted
  refine wpAny_bind (wpAny_of_eq (show checkCount "sorted" 1 1 1 = pure () from rfl) ?_)
  refine wpAny_bind (collect_tup ho hcl hd (by simpa using small) fun h' kp ge => ?_)
  refine wpAny_bind (wpAny_newList ?_ (by simpa using small))
  have kp2 : ∀ (b : Addr) (u : Obj), s.heap.get? b = some u → (h'.push ({ cls := .type "list", data := .seq its.toArray } : Obj)).get? b = some u := fun b u hb => Heap.get?_push_of_some _ (kp b u hb)
  have J : L2.Inv X pins σ (upd H h'.objs.size (.lst (xs.map V.str))) { heap := h'.push ({ cls := .type "list", data := .seq its.toArray } : Obj), gens := s.gens, drawn := s.drawn, toks := s.toks, os := s.os } :=
    I.laid (t' := s.toks) kp2 ge ⟨by rw [List.length_map]; exact Nat.le_trans (by omega : xs.length ≤ 64) (by decide), its, 0, rv, Heap.get?_push_size _ rfl⟩
  have new : H h'.objs.size = none := I.hok.fresh ge
  refine wpAny_bind (wpAny_holding ?_)
  refine wpAny_mono (mt_sortS (X := { X with A := X.A.in1 }) pins _ σ _ (.ref h'.objs.size) [] (.ref h'.objs.size) [] (fun v H2 => ∃ ys : List Str, v = .non ∧ H2 = upd (upd H h'.objs.size (.lst (xs.map V.str))) h'.objs.size (.lst (ys.map V.str)) ∧ ys.Perm xs ∧ sortedS ys = true) (inv_in1 J) rfl .nil ⟨_, xs, rfl, rfl, upd_same, hl, fun ys p1 p2 => ⟨ys, rfl, rfl, p1, p2⟩⟩) (fun v s' got => ?_) fun _ _ z => z
  obtain ⟨v', H2, I2, rv2, ys, rfl, rfl, p1, p2⟩ := got
  have e : upd (upd H h'.objs.size (.lst (xs.map V.str))) h'.objs.size (.lst (ys.map V.str)) = upd H h'.objs.size (.lst (ys.map V.str)) := by
    funext b
    by_cases hb : b = h'.objs.size
    · subst hb
      rw [upd_same, upd_same]
    · rw [upd_ne hb, upd_ne hb, upd_ne hb]
  have I3 := inv_out1 I I2
  rw [e] at I3
  unfold ret
  refine wpAny_pure ?_
  exact ⟨.ref h'.objs.size, _, I3, rfl, q ys _ p1 p2 new⟩
end KV
set_option Elab.async false
set_option linter.all false
set_option maxRecDepth 100000
set_option maxHeartbeats 4000000
namespace KV
open PySem PySem.Spec PyProof.Rows L2 Evl KF
/-! a list of anything against [] -/
def rNilL (K : PySem.W.Frag) (neg : Bool) : R2 := fun x y H Q => ∃ (a b : Addr) (xs : List V), x = .ref a ∧ y = .ref b ∧ SqL K H a xs ∧ SqL K H b [] ∧ Q (.bl (if neg then !decide (xs = []) else decide (xs = []))) H
theorem isL {h : Heap} {a : Addr} {its : Array Value} (p : PlainL h a its) : h.IsList a its := let ⟨o, n, e, c, _, d⟩ := p; ⟨o, e, c, n, d⟩
section
variable {X : Cx} {K : PySem.W.Frag}
theorem op_eqNilL (hK : X.K = K) (hu : X.A.units + 64 < cLine) : OpR X (compareOp .Eq) (rNilL K false) := by
  subst hK
  intro pins s σ H x y v u Q I rx ry h
  obtain ⟨a, b, xs, rfl, rfl, ha, hb, q⟩ := h
  by_cases e : xs = []
  · subst e
    exact op_eqD hu pins s σ H _ _ v u Q I rx ry ⟨.list [], .list [], .lst ha .nil, .lst hb .nil, by decide +kernel, by decide +kernel, by rw [show PyData.eqv (.list []) (.list []) = true by decide +kernel]; exact q⟩
  · obtain ⟨its, r1, h1, _⟩ := I.list ha
    obtain ⟨its2, r2, h2, _⟩ := I.list hb
    replace h1 := isL h1
    replace h2 := isL h2
    obtain rfl : v = Value.ref a := rx
    obtain rfl : u = Value.ref b := ry
    have l2 : its2 = [] := by cases r2; rfl
    subst l2
    have ne : (its.toArray.size != ([] : List Value).toArray.size) = true := by
      cases r1 with
      | nil => exact absurd rfl e
      | cons _ _ => simp
    have z : (if false = true then !decide (xs = []) else decide (xs = [])) = false := by simp [e]
    rw [z] at q
    exact SeqAt.RcAt.lists_lengths h1 h2 ne (Nat.lt_of_le_of_lt (Nat.le_add_right _ _) hu) X.prog X.w _ _ ⟨.bl false, H, I, rfl, q⟩
theorem op_neNilL (hK : X.K = K) (hu : X.A.units + 64 < cLine) : OpR X (compareOp .NotEq) (rNilL K true) := by
  subst hK
  intro pins s σ H x y v u Q I rx ry h
  obtain ⟨a, b, xs, rfl, rfl, ha, hb, q⟩ := h
  by_cases e : xs = []
  · subst e
    exact op_neD hu pins s σ H _ _ v u Q I rx ry ⟨.list [], .list [], .lst ha .nil, .lst hb .nil, by decide +kernel, by decide +kernel, by rw [show PyData.eqv (.list []) (.list []) = true by decide +kernel]; exact q⟩
  · obtain ⟨its, r1, h1, _⟩ := I.list ha
    obtain ⟨its2, r2, h2, _⟩ := I.list hb
    replace h1 := isL h1
    replace h2 := isL h2
    obtain rfl : v = Value.ref a := rx
    obtain rfl : u = Value.ref b := ry
    have l2 : its2 = [] := by cases r2; rfl
    subst l2
    have ne : (its.toArray.size != ([] : List Value).toArray.size) = true := by
      cases r1 with
      | nil => exact absurd rfl e
      | cons _ _ => simp
    have z : (if true = true then !decide (xs = []) else decide (xs = [])) = true := by simp [e]
    rw [z] at q
    exact SeqAt.RcNeAt.lists_lengths h1 h2 ne (Nat.lt_of_le_of_lt (Nat.le_add_right _ _) hu) X.prog X.w _ _ ⟨.bl true, H, I, rfl, q⟩
theorem rv_nilL {K : PySem.W.Frag} {H : Hp} {p q : Addr} {xs : List V} {neg : Bool} (h1 : H p = some (.lst xs)) (h2 : H q = some (.lst [])) : RV (rNilL K neg) (.ref p) (.ref q) H (.bl (if neg then !decide (xs = []) else decide (xs = []))) := fun H1 e Q k =>
  ⟨p, q, xs, rfl, rfl, sq_of (e _ _ h1), sq_of (e _ _ h2), k H1 (Ex.refl H1)⟩
theorem ev_eqNilL {σ : L2.St} {H : Hp} {te tl : TE} {p : Addr} {xs : List V} {neg : Bool} (h : Ev te σ H (.ref p)) (hp : H p = some (.lst xs)) (hl : EvL tl σ H []) : Ev (tOp (rNilL K neg) te tl) σ H (.bl (if neg then !decide (xs = []) else decide (xs = []))) := ev_opL h hl fun q H1 hq e => rv_nilL (e _ _ hp) hq
theorem ev_eqNilN {σ : L2.St} {H : Hp} {te tl : TE} {xs : List V} {neg : Bool} (h : EvL te σ H xs) (hl : EvL tl σ H []) : Ev (tOp (rNilL K neg) te tl) σ H (.bl (if neg then !decide (xs = []) else decide (xs = []))) := ev_opLL h hl fun p q H1 hp hq e => rv_nilL hp hq
end
theorem notFirst_self {K : PySem.W.Frag} {C : Addr} : PySem.W.notFirst K C (.ref C) = true := by
  unfold PySem.W.notFirst
  simp
end KV
set_option Elab.async false
set_option linter.all false
set_option maxRecDepth 100000
set_option maxHeartbeats 4000000
namespace KI
open PySem L2
def top (i : Nat) : Stmt := PySem.Challenge.pw_modesdown_k12_users_made.main.body.getD i (.Pass ⟨0, 0, 0, 0⟩)
abbrev s__wall : Stmt := top 0
abbrev s_is_whole : Stmt := top 3
abbrev s_is_whole_to : Stmt := top 4
abbrev s_is_name : Stmt := top 5
abbrev s_are_unlike_names : Stmt := top 6
abbrev s_BadModeD_initD : Stmt := inClass (top 10) 0
abbrev s_BadUserD_initD : Stmt := inClass (top 11) 0
abbrev s_BadTextD_initD : Stmt := inClass (top 12) 0
abbrev s_ModeD_initD : Stmt := inClass (top 16) 1
abbrev s_Mode_read : Stmt := inClass (top 16) 2
abbrev s_Mode_of : Stmt := inClass (top 16) 3
abbrev s_Mode_uniform : Stmt := inClass (top 16) 4
abbrev s_Mode_number : Stmt := inClass (top 16) 5
abbrev s_Mode_digits : Stmt := inClass (top 16) 6
abbrev s_Mode_pattern : Stmt := inClass (top 16) 7
abbrev s_Mode_with_pattern : Stmt := inClass (top 16) 8
abbrev s_ModeD_orD : Stmt := inClass (top 16) 9
abbrev s_ModeD_rorD : Stmt := inClass (top 16) 10
abbrev s_ModeD_andD : Stmt := inClass (top 16) 11
abbrev s_ModeD_randD : Stmt := inClass (top 16) 12
abbrev s_ModeD_xorD : Stmt := inClass (top 16) 13
abbrev s_ModeD_rxorD : Stmt := inClass (top 16) 14
abbrev s_ModeD_invertD : Stmt := inClass (top 16) 15
abbrev s_ModeD_containsD : Stmt := inClass (top 16) 16
abbrev s_ModeD_lenD : Stmt := inClass (top 16) 17
abbrev s_ModeD_boolD : Stmt := inClass (top 16) 18
abbrev s_ModeD_eqD : Stmt := inClass (top 16) 19
abbrev s_ModeD_strD : Stmt := inClass (top 16) 20
abbrev s_ModeD_reprD : Stmt := inClass (top 16) 21
abbrev s_may_stand : Stmt := top 17
abbrev s_number_of : Stmt := top 18
abbrev s_UserD_initD : Stmt := inClass (top 21) 1
abbrev s_User_name : Stmt := inClass (top 21) 2
abbrev s_User_groups : Stmt := inClass (top 21) 4
abbrev s_User_class_at : Stmt := inClass (top 21) 5
abbrev s_User_bits_at : Stmt := inClass (top 21) 6
abbrev s_User_passes : Stmt := inClass (top 21) 7
abbrev s_User_lists : Stmt := inClass (top 21) 8
abbrev s_User_may_change : Stmt := inClass (top 21) 9
abbrev s_UserD_eqD : Stmt := inClass (top 21) 10
abbrev s_ChiefD_initD : Stmt := inClass (top 22) 0
abbrev s_Chief_class_at : Stmt := inClass (top 22) 1
abbrev s_Chief_bits_at : Stmt := inClass (top 22) 2
abbrev s_Chief_passes : Stmt := inClass (top 22) 3
abbrev s_Chief_lists : Stmt := inClass (top 22) 4
abbrev s_Chief_may_change : Stmt := inClass (top 22) 5
abbrev s__law_pen : Stmt := top 24
abbrev s__law_draw : Stmt := top 25
abbrev s__law_pick : Stmt := top 26
abbrev s__law_drawn_name : Stmt := top 27
abbrev s__law_is_name : Stmt := top 28
abbrev s__law_wrong_part : Stmt := top 29
abbrev s__law_made_user : Stmt := top 30
abbrev s__law_heard : Stmt := top 31
abbrev s__law_right : Stmt := top 32
abbrev s_law : Stmt := top 33
abbrev n_is_whole : List Str := ["value"]
theorem sc_is_whole : FnScope n_is_whole ["value"] (defScope s_is_whole) := ⟨rfl, rfl, rfl, by decide +kernel, rfl, by decide +kernel, by decide +kernel⟩
abbrev n_is_whole_to : List Str := ["value", "most"]
theorem sc_is_whole_to : FnScope n_is_whole_to ["value", "most"] (defScope s_is_whole_to) := ⟨rfl, rfl, rfl, by decide +kernel, rfl, by decide +kernel, by decide +kernel⟩
abbrev n_is_name : List Str := ["value", "letter"]
theorem sc_is_name : FnScope n_is_name ["value"] (defScope s_is_name) := ⟨rfl, rfl, rfl, by decide +kernel, rfl, by decide +kernel, by decide +kernel⟩
abbrev n_are_unlike_names : List Str := ["values", "value"]
theorem sc_are_unlike_names : FnScope n_are_unlike_names ["values"] (defScope s_are_unlike_names) := ⟨rfl, rfl, rfl, by decide +kernel, rfl, by decide +kernel, by decide +kernel⟩
abbrev n_BadModeD_initD : List Str := ["self", "part"]
theorem sc_BadModeD_initD : FnScope n_BadModeD_initD ["self", "part"] (defScope s_BadModeD_initD) := ⟨rfl, rfl, rfl, by decide +kernel, rfl, by decide +kernel, by decide +kernel⟩
abbrev n_BadUserD_initD : List Str := ["self", "part"]
theorem sc_BadUserD_initD : FnScope n_BadUserD_initD ["self", "part"] (defScope s_BadUserD_initD) := ⟨rfl, rfl, rfl, by decide +kernel, rfl, by decide +kernel, by decide +kernel⟩
abbrev n_BadTextD_initD : List Str := ["self", "line", "word"]
theorem sc_BadTextD_initD : FnScope n_BadTextD_initD ["self", "line", "word"] (defScope s_BadTextD_initD) := ⟨rfl, rfl, rfl, by decide +kernel, rfl, by decide +kernel, by decide +kernel⟩
abbrev n_ModeD_initD : List Str := ["self", "number"]
theorem sc_ModeD_initD : FnScope n_ModeD_initD ["self", "number"] (defScope s_ModeD_initD) := ⟨rfl, rfl, rfl, by decide +kernel, rfl, by decide +kernel, by decide +kernel⟩
abbrev n_Mode_read : List Str := ["cls", "text", "number", "at", "sign"]
theorem sc_Mode_read : FnScope n_Mode_read ["cls", "text"] (defScope s_Mode_read) := ⟨rfl, rfl, rfl, by decide +kernel, rfl, by decide +kernel, by decide +kernel⟩
abbrev n_Mode_of : List Str := ["owner", "group", "others", "part", "digit"]
theorem sc_Mode_of : FnScope n_Mode_of ["owner", "group", "others"] (defScope s_Mode_of) := ⟨rfl, rfl, rfl, by decide +kernel, rfl, by decide +kernel, by decide +kernel⟩
abbrev n_Mode_uniform : List Str := ["pattern"]
theorem sc_Mode_uniform : FnScope n_Mode_uniform ["pattern"] (defScope s_Mode_uniform) := ⟨rfl, rfl, rfl, by decide +kernel, rfl, by decide +kernel, by decide +kernel⟩
abbrev n_Mode_number : List Str := ["self"]
theorem sc_Mode_number : FnScope n_Mode_number ["self"] (defScope s_Mode_number) := ⟨rfl, rfl, rfl, by decide +kernel, rfl, by decide +kernel, by decide +kernel⟩
abbrev n_Mode_digits : List Str := ["self"]
theorem sc_Mode_digits : FnScope n_Mode_digits ["self"] (defScope s_Mode_digits) := ⟨rfl, rfl, rfl, by decide +kernel, rfl, by decide +kernel, by decide +kernel⟩
abbrev n_Mode_pattern : List Str := ["self", "letter"]
theorem sc_Mode_pattern : FnScope n_Mode_pattern ["self", "letter"] (defScope s_Mode_pattern) := ⟨rfl, rfl, rfl, by decide +kernel, rfl, by decide +kernel, by decide +kernel⟩
abbrev n_Mode_with_pattern : List Str := ["self", "letter", "pattern"]
theorem sc_Mode_with_pattern : FnScope n_Mode_with_pattern ["self", "letter", "pattern"] (defScope s_Mode_with_pattern) := ⟨rfl, rfl, rfl, by decide +kernel, rfl, by decide +kernel, by decide +kernel⟩
abbrev n_ModeD_orD : List Str := ["self", "other"]
theorem sc_ModeD_orD : FnScope n_ModeD_orD ["self", "other"] (defScope s_ModeD_orD) := ⟨rfl, rfl, rfl, by decide +kernel, rfl, by decide +kernel, by decide +kernel⟩
abbrev n_ModeD_rorD : List Str := ["self", "other"]
theorem sc_ModeD_rorD : FnScope n_ModeD_rorD ["self", "other"] (defScope s_ModeD_rorD) := ⟨rfl, rfl, rfl, by decide +kernel, rfl, by decide +kernel, by decide +kernel⟩
abbrev n_ModeD_andD : List Str := ["self", "other"]
theorem sc_ModeD_andD : FnScope n_ModeD_andD ["self", "other"] (defScope s_ModeD_andD) := ⟨rfl, rfl, rfl, by decide +kernel, rfl, by decide +kernel, by decide +kernel⟩
abbrev n_ModeD_randD : List Str := ["self", "other"]
theorem sc_ModeD_randD : FnScope n_ModeD_randD ["self", "other"] (defScope s_ModeD_randD) := ⟨rfl, rfl, rfl, by decide +kernel, rfl, by decide +kernel, by decide +kernel⟩
abbrev n_ModeD_xorD : List Str := ["self", "other"]
theorem sc_ModeD_xorD : FnScope n_ModeD_xorD ["self", "other"] (defScope s_ModeD_xorD) := ⟨rfl, rfl, rfl, by decide +kernel, rfl, by decide +kernel, by decide +kernel⟩
abbrev n_ModeD_rxorD : List Str := ["self", "other"]
theorem sc_ModeD_rxorD : FnScope n_ModeD_rxorD ["self", "other"] (defScope s_ModeD_rxorD) := ⟨rfl, rfl, rfl, by decide +kernel, rfl, by decide +kernel, by decide +kernel⟩
abbrev n_ModeD_invertD : List Str := ["self"]
theorem sc_ModeD_invertD : FnScope n_ModeD_invertD ["self"] (defScope s_ModeD_invertD) := ⟨rfl, rfl, rfl, by decide +kernel, rfl, by decide +kernel, by decide +kernel⟩
abbrev n_ModeD_containsD : List Str := ["self", "bit", "bits"]
theorem sc_ModeD_containsD : FnScope n_ModeD_containsD ["self", "bit"] (defScope s_ModeD_containsD) := ⟨rfl, rfl, rfl, by decide +kernel, rfl, by decide +kernel, by decide +kernel⟩
abbrev n_ModeD_lenD : List Str := ["self", "bit"]
theorem sc_ModeD_lenD : FnScope n_ModeD_lenD ["self"] (defScope s_ModeD_lenD) := ⟨rfl, rfl, rfl, by decide +kernel, rfl, by decide +kernel, by decide +kernel⟩
abbrev n_ModeD_boolD : List Str := ["self"]
theorem sc_ModeD_boolD : FnScope n_ModeD_boolD ["self"] (defScope s_ModeD_boolD) := ⟨rfl, rfl, rfl, by decide +kernel, rfl, by decide +kernel, by decide +kernel⟩
abbrev n_ModeD_eqD : List Str := ["self", "other"]
theorem sc_ModeD_eqD : FnScope n_ModeD_eqD ["self", "other"] (defScope s_ModeD_eqD) := ⟨rfl, rfl, rfl, by decide +kernel, rfl, by decide +kernel, by decide +kernel⟩
abbrev n_ModeD_strD : List Str := ["self", "sign", "bit"]
theorem sc_ModeD_strD : FnScope n_ModeD_strD ["self"] (defScope s_ModeD_strD) := ⟨rfl, rfl, rfl, by decide +kernel, rfl, by decide +kernel, by decide +kernel⟩
abbrev n_ModeD_reprD : List Str := ["self"]
theorem sc_ModeD_reprD : FnScope n_ModeD_reprD ["self"] (defScope s_ModeD_reprD) := ⟨rfl, rfl, rfl, by decide +kernel, rfl, by decide +kernel, by decide +kernel⟩
abbrev n_may_stand : List Str := ["value"]
theorem sc_may_stand : FnScope n_may_stand ["value"] (defScope s_may_stand) := ⟨rfl, rfl, rfl, by decide +kernel, rfl, by decide +kernel, by decide +kernel⟩
abbrev n_number_of : List Str := ["mode"]
theorem sc_number_of : FnScope n_number_of ["mode"] (defScope s_number_of) := ⟨rfl, rfl, rfl, by decide +kernel, rfl, by decide +kernel, by decide +kernel⟩
abbrev n_UserD_initD : List Str := ["self", "name", "groups"]
theorem sc_UserD_initD : NdefX.NScope n_UserD_initD ["self", "name", "groups"] [] (defScope s_UserD_initD) := NdefX.nscope_by (by decide +kernel)
abbrev n_User_name : List Str := ["self"]
theorem sc_User_name : FnScope n_User_name ["self"] (defScope s_User_name) := ⟨rfl, rfl, rfl, by decide +kernel, rfl, by decide +kernel, by decide +kernel⟩
abbrev n_User_groups : List Str := ["self"]
theorem sc_User_groups : FnScope n_User_groups ["self"] (defScope s_User_groups) := ⟨rfl, rfl, rfl, by decide +kernel, rfl, by decide +kernel, by decide +kernel⟩
abbrev n_User_class_at : List Str := ["self", "owner", "group"]
theorem sc_User_class_at : FnScope n_User_class_at ["self", "owner", "group"] (defScope s_User_class_at) := ⟨rfl, rfl, rfl, by decide +kernel, rfl, by decide +kernel, by decide +kernel⟩
abbrev n_User_bits_at : List Str := ["self", "mode", "owner", "group"]
theorem sc_User_bits_at : FnScope n_User_bits_at ["self", "mode", "owner", "group"] (defScope s_User_bits_at) := ⟨rfl, rfl, rfl, by decide +kernel, rfl, by decide +kernel, by decide +kernel⟩
abbrev n_User_passes : List Str := ["self", "mode", "owner", "group"]
theorem sc_User_passes : FnScope n_User_passes ["self", "mode", "owner", "group"] (defScope s_User_passes) := ⟨rfl, rfl, rfl, by decide +kernel, rfl, by decide +kernel, by decide +kernel⟩
abbrev n_User_lists : List Str := ["self", "mode", "owner", "group"]
theorem sc_User_lists : FnScope n_User_lists ["self", "mode", "owner", "group"] (defScope s_User_lists) := ⟨rfl, rfl, rfl, by decide +kernel, rfl, by decide +kernel, by decide +kernel⟩
abbrev n_User_may_change : List Str := ["self", "owner"]
theorem sc_User_may_change : FnScope n_User_may_change ["self", "owner"] (defScope s_User_may_change) := ⟨rfl, rfl, rfl, by decide +kernel, rfl, by decide +kernel, by decide +kernel⟩
abbrev n_UserD_eqD : List Str := ["self", "other"]
theorem sc_UserD_eqD : FnScope n_UserD_eqD ["self", "other"] (defScope s_UserD_eqD) := ⟨rfl, rfl, rfl, by decide +kernel, rfl, by decide +kernel, by decide +kernel⟩
abbrev n_ChiefD_initD : List Str := ["self", "name", "groups", "__class__"]
theorem sc_ChiefD_initD : NdefX.NScope n_ChiefD_initD ["self", "name", "groups"] ["__class__"] (defScope s_ChiefD_initD) := NdefX.nscope_by (by decide +kernel)
abbrev n__law_pen : List Str := ["_law_script"]
theorem sc__law_pen : FnScope n__law_pen ["_law_script"] (defScope s__law_pen) := ⟨rfl, rfl, rfl, by decide +kernel, rfl, by decide +kernel, by decide +kernel⟩
abbrev n__law_draw : List Str := ["_law_pen_here", "_law_many", "_law_digit", "_law_at", "_law_cell", "_law_great", "_law_mixed"]
theorem sc__law_draw : FnScope n__law_draw ["_law_pen_here", "_law_many"] (defScope s__law_draw) := ⟨rfl, rfl, rfl, by decide +kernel, rfl, by decide +kernel, by decide +kernel⟩
abbrev n__law_pick : List Str := ["_law_pen_here", "_law_some"]
theorem sc__law_pick : FnScope n__law_pick ["_law_pen_here", "_law_some"] (defScope s__law_pick) := ⟨rfl, rfl, rfl, by decide +kernel, rfl, by decide +kernel, by decide +kernel⟩
abbrev n__law_drawn_name : List Str := ["_law_pen_here", "_law_odd", "_law_way", "_law_letters", "_law_k"]
theorem sc__law_drawn_name : FnScope n__law_drawn_name ["_law_pen_here"] (defScope s__law_drawn_name) := ⟨rfl, rfl, rfl, by decide +kernel, rfl, by decide +kernel, by decide +kernel⟩
abbrev n__law_is_name : List Str := ["_law_thing", "_law_sign"]
theorem sc__law_is_name : FnScope n__law_is_name ["_law_thing"] (defScope s__law_is_name) := ⟨rfl, rfl, rfl, by decide +kernel, rfl, by decide +kernel, by decide +kernel⟩
abbrev n__law_wrong_part : List Str := ["_law_name", "_law_groups", "_law_at"]
theorem sc__law_wrong_part : FnScope n__law_wrong_part ["_law_name", "_law_groups"] (defScope s__law_wrong_part) := ⟨rfl, rfl, rfl, by decide +kernel, rfl, by decide +kernel, by decide +kernel⟩
abbrev n__law_made_user : List Str := ["_law_is_chief", "_law_name", "_law_groups"]
theorem sc__law_made_user : FnScope n__law_made_user ["_law_is_chief", "_law_name", "_law_groups"] (defScope s__law_made_user) := ⟨rfl, rfl, rfl, by decide +kernel, rfl, by decide +kernel, by decide +kernel⟩
abbrev n__law_heard : List Str := ["_law_is_chief", "_law_name", "_law_groups", "_law_caught", "error", "_law_is_right"]
theorem sc__law_heard : FnScope n__law_heard ["_law_is_chief", "_law_name", "_law_groups"] (defScope s__law_heard) := ⟨rfl, rfl, rfl, by decide +kernel, rfl, by decide +kernel, by decide +kernel⟩
abbrev n__law_right : List Str := ["_law_is_chief", "_law_name", "_law_groups", "_law_one", "_law_other", "_law_fresh", "_law_more"]
theorem sc__law_right : FnScope n__law_right ["_law_is_chief", "_law_name", "_law_groups"] (defScope s__law_right) := ⟨rfl, rfl, rfl, by decide +kernel, rfl, by decide +kernel, by decide +kernel⟩
abbrev n_law : List Str := ["_law_script", "_law_pen_here", "_law_turn", "_law_name", "_law_is_chief", "_law_groups", "_law_due", "_law_k"]
theorem sc_law : FnScope n_law ["_law_script"] (defScope s_law) := ⟨rfl, rfl, rfl, by decide +kernel, rfl, by decide +kernel, by decide +kernel⟩
end KI
set_option Elab.async false
set_option linter.all false
set_option maxRecDepth 100000
set_option maxHeartbeats 4000000
namespace KI
open PySem PySem.Spec PyProof.Rows L2 Evl
structure Ads where
  f_is_name : Addr
  d_is_name : FuncData
  f_are_unlike_names : Addr
  d_are_unlike_names : FuncData
  f__law_pen : Addr
  d__law_pen : FuncData
  f__law_draw : Addr
  d__law_draw : FuncData
  f__law_pick : Addr
  d__law_pick : FuncData
  f__law_drawn_name : Addr
  d__law_drawn_name : FuncData
  f__law_is_name : Addr
  d__law_is_name : FuncData
  f__law_wrong_part : Addr
  d__law_wrong_part : FuncData
  f__law_made_user : Addr
  d__law_made_user : FuncData
  f__law_heard : Addr
  d__law_heard : FuncData
  f__law_right : Addr
  d__law_right : FuncData
  f_User : Addr
  f_UserD_initD : Addr
  d_UserD_initD : FuncData
  f_User_name : Addr
  d_User_name : FuncData
  p_User_name : Addr
  f_User_groups : Addr
  d_User_groups : FuncData
  p_User_groups : Addr
  f_Chief : Addr
  f_ChiefD_initD : Addr
  d_ChiefD_initD : FuncData
  cc_ChiefD_initD : Addr
  c_ChiefD_initD : Addr
  c_UserD_initD : Addr
  f_UserD_eqD : Addr
  d_UserD_eqD : FuncData
  x_BadUser : Addr
  x_BadInput : Addr
  x_ModesError : Addr
  f_BadUserD_initD : Addr
  d_BadUserD_initD : FuncData
structure Txt (P : Program) (w : World) (K : PySem.W.Frag) (mg : Str → Option Value) (a : Ads) : Prop where
  b_isinstance : mg "isinstance" = none
  b_int : mg "int" = none
  b_str : mg "str" = none
  b_list : mg "list" = none
  b_len : mg "len" = none
  b_abs : mg "abs" = none
  b_range : mg "range" = none
  b_tuple : mg "tuple" = none
  b_all : mg "all" = none
  b_set : mg "set" = none
  b_repr : mg "repr" = none
  b_super : mg "super" = none
  b_sorted : mg "sorted" = none
  b_ValueError : mg "ValueError" = none
  mg_is_name : mg "is_name" = some (.ref a.f_is_name)
  fn_is_name : Fun K "is_name" "is_name" s_is_name a.f_is_name a.d_is_name
  mg_are_unlike_names : mg "are_unlike_names" = some (.ref a.f_are_unlike_names)
  fn_are_unlike_names : Fun K "are_unlike_names" "are_unlike_names" s_are_unlike_names a.f_are_unlike_names a.d_are_unlike_names
  mg__law_pen : mg "_law_pen" = some (.ref a.f__law_pen)
  fn__law_pen : Fun K "_law_pen" "_law_pen" s__law_pen a.f__law_pen a.d__law_pen
  mg__law_draw : mg "_law_draw" = some (.ref a.f__law_draw)
  fn__law_draw : Fun K "_law_draw" "_law_draw" s__law_draw a.f__law_draw a.d__law_draw
  mg__law_pick : mg "_law_pick" = some (.ref a.f__law_pick)
  fn__law_pick : Fun K "_law_pick" "_law_pick" s__law_pick a.f__law_pick a.d__law_pick
  mg__law_drawn_name : mg "_law_drawn_name" = some (.ref a.f__law_drawn_name)
  fn__law_drawn_name : Fun K "_law_drawn_name" "_law_drawn_name" s__law_drawn_name a.f__law_drawn_name a.d__law_drawn_name
  mg__law_is_name : mg "_law_is_name" = some (.ref a.f__law_is_name)
  fn__law_is_name : Fun K "_law_is_name" "_law_is_name" s__law_is_name a.f__law_is_name a.d__law_is_name
  mg__law_wrong_part : mg "_law_wrong_part" = some (.ref a.f__law_wrong_part)
  fn__law_wrong_part : Fun K "_law_wrong_part" "_law_wrong_part" s__law_wrong_part a.f__law_wrong_part a.d__law_wrong_part
  mg__law_made_user : mg "_law_made_user" = some (.ref a.f__law_made_user)
  fn__law_made_user : Fun K "_law_made_user" "_law_made_user" s__law_made_user a.f__law_made_user a.d__law_made_user
  mg__law_heard : mg "_law_heard" = some (.ref a.f__law_heard)
  fn__law_heard : Fun K "_law_heard" "_law_heard" s__law_heard a.f__law_heard a.d__law_heard
  mg__law_right : mg "_law_right" = some (.ref a.f__law_right)
  fn__law_right : Fun K "_law_right" "_law_right" s__law_right a.f__law_right a.d__law_right
  mg_User : mg "User" = some (.ref a.f_User)
  c_User : Cls K a.f_User
  n_name_User : NoAttr K a.f_User "_name"
  n_groups_User : NoAttr K a.f_User "_groups"
  mk_User : Mk K a.f_User a.f_UserD_initD
  fn_UserD_initD : ∃ (oc kV doc pm ct : Value) (od an : Option Addr) (osl : Array (Option Value)), a.d_UserD_initD = PySem.W.fnX "__init__" "User.__init__" (defArgs s_UserD_initD) (defBody s_UserD_initD) (defScope s_UserD_initD) [] .none kV doc pm an (.ref a.c_UserD_initD) ct ∧ K.lookup a.f_UserD_initD = some ⟨oc, od, .func a.d_UserD_initD, osl⟩ ∧ PySem.W.codeIn K (.ref a.c_UserD_initD) "User.__init__" = true
  p_User_name : PropOf K a.f_User "name" a.p_User_name a.f_User_name
  fn_User_name : Fun K "name" "User.name" s_User_name a.f_User_name a.d_User_name
  p_User_groups : PropOf K a.f_User "groups" a.p_User_groups a.f_User_groups
  fn_User_groups : Fun K "groups" "User.groups" s_User_groups a.f_User_groups a.d_User_groups
  r_User : ClX.CRead K a.f_User (.type "type")
  k_User_GROUPS : ∃ t, ClX.CVal K a.f_User (.type "type") "GROUPS" (.int 2) (.int 2 t)
  mg_Chief : mg "Chief" = some (.ref a.f_Chief)
  c_Chief : Cls K a.f_Chief
  n_name_Chief : NoAttr K a.f_Chief "_name"
  n_groups_Chief : NoAttr K a.f_Chief "_groups"
  mk_Chief : Mk K a.f_Chief a.f_ChiefD_initD
  su_ChiefD_initD : KU.SupF P K (⟨"__init__", "Chief.__init__", defArgs s_ChiefD_initD, defBody s_ChiefD_initD, defScope s_ChiefD_initD, [("__class__", a.cc_ChiefD_initD)], a.c_ChiefD_initD⟩ : NdefX.NF) a.f_Chief a.f_ChiefD_initD a.cc_ChiefD_initD a.d_ChiefD_initD
  sm_ChiefD_initD : KU.SupM K a.f_Chief a.f_Chief "__init__" a.f_UserD_initD
  e_User : PySem.W.findIn K (.ref a.f_User) "__eq__" = some (some (.ref a.f_UserD_eqD))
  en_User : PySem.W.findIn K (.ref a.f_User) "__ne__" = some (some (.builtin "object.__ne__"))
  im_User : PySem.W.mroIn K a.f_User (.type "object") = some true
  ia_User : PySem.W.findIn K (.ref a.f_User) "__class__" = some (some (.builtin "object.__class__"))
  nt_User_str : PySem.W.kitOne K (.type "str") (.ref a.f_User) = some false
  nt_User_tuple : PySem.W.kitOne K (.type "tuple") (.ref a.f_User) = some false
  nt_User_int : PySem.W.kitOne K (.type "int") (.ref a.f_User) = some false
  nt_User_NoneType : PySem.W.kitOne K (.type "NoneType") (.ref a.f_User) = some false
  nt_User_list : PySem.W.kitOne K (.type "list") (.ref a.f_User) = some false
  nt_User_dict : PySem.W.kitOne K (.type "dict") (.ref a.f_User) = some false
  nf_User_str : PySem.W.notFirst K a.f_User (.type "str") = true
  nf_User_tuple : PySem.W.notFirst K a.f_User (.type "tuple") = true
  ki_User_User : PySem.W.kitOne K (.ref a.f_User) (.ref a.f_User) = some true
  ki_User_Chief : PySem.W.kitOne K (.ref a.f_User) (.ref a.f_Chief) = some false
  e_Chief : PySem.W.findIn K (.ref a.f_Chief) "__eq__" = some (some (.ref a.f_UserD_eqD))
  en_Chief : PySem.W.findIn K (.ref a.f_Chief) "__ne__" = some (some (.builtin "object.__ne__"))
  im_Chief : PySem.W.mroIn K a.f_Chief (.type "object") = some true
  ia_Chief : PySem.W.findIn K (.ref a.f_Chief) "__class__" = some (some (.builtin "object.__class__"))
  nt_Chief_str : PySem.W.kitOne K (.type "str") (.ref a.f_Chief) = some false
  nt_Chief_tuple : PySem.W.kitOne K (.type "tuple") (.ref a.f_Chief) = some false
  nt_Chief_int : PySem.W.kitOne K (.type "int") (.ref a.f_Chief) = some false
  nt_Chief_NoneType : PySem.W.kitOne K (.type "NoneType") (.ref a.f_Chief) = some false
  nt_Chief_list : PySem.W.kitOne K (.type "list") (.ref a.f_Chief) = some false
  nt_Chief_dict : PySem.W.kitOne K (.type "dict") (.ref a.f_Chief) = some false
  nf_Chief_str : PySem.W.notFirst K a.f_Chief (.type "str") = true
  nf_Chief_tuple : PySem.W.notFirst K a.f_Chief (.type "tuple") = true
  ki_Chief_User : PySem.W.kitOne K (.ref a.f_Chief) (.ref a.f_User) = some true
  ki_Chief_Chief : PySem.W.kitOne K (.ref a.f_Chief) (.ref a.f_Chief) = some true
  p_Chief_name : PropOf K a.f_Chief "name" a.p_User_name a.f_User_name
  p_Chief_groups : PropOf K a.f_Chief "groups" a.p_User_groups a.f_User_groups
  nf_Chief_User : PySem.W.notFirst K a.f_Chief (.ref a.f_User) = true
  mro_Chief_User : PySem.W.mroIn K a.f_Chief (.ref a.f_User) = some true
  ne_User_Chief : a.f_User ≠ a.f_Chief
  ef_ : PySem.W.isFn K (.ref a.f_UserD_eqD) = true
  fn_UserD_eqD : Fun K "__eq__" "User.__eq__" s_UserD_eqD a.f_UserD_eqD a.d_UserD_eqD
  in_ : PySem.W.specialIn K (.builtin "object.__class__") "__get__" = some (some (.builtin "getset_descriptor.__get__"))
  it_ : PySem.W.takesIn K (.builtin "object.__class__") = some true
  mg_LETTERS : ∃ t, mg "LETTERS" = some (.str "abcdefghijklmnopqrstuvwxyz" t)
  mg_BadUser : mg "BadUser" = some (.ref a.x_BadUser)
  mg_ModesError : mg "ModesError" = some (.ref a.x_ModesError)
  ks_BadUser : PySem.W.kitOne K (.ref a.x_BadUser) (.ref a.x_BadUser) = some true
  ec_BadUser : ExcC K a.x_BadUser
  ox_BadUser : OexC K a.x_BadUser
  ic_BadUser : PySem.W.findIn K (.ref a.x_BadUser) "__init__" = some (some (.ref a.f_BadUserD_initD))
  it_BadUser : PySem.W.typeIn K (.ref a.f_BadUserD_initD) = some (.type "function")
  fn_BadUserD_initD : Fun K "__init__" "BadUser.__init__" s_BadUserD_initD a.f_BadUserD_initD a.d_BadUserD_initD
  np_BadUser : PySem.W.findIn K (.ref a.x_BadUser) "part" = some none
  ks_BadInput : PySem.W.kitOne K (.ref a.x_BadUser) (.ref a.x_BadInput) = some true
  ks_ValueError : PySem.W.kitOne K (.ref a.x_BadUser) (.type "ValueError") = some true
  mg_BadInput : mg "BadInput" = some (.ref a.x_BadInput)
  em_BadUser : PySem.W.exmOne K (.ref a.x_BadUser) (.ref a.x_ModesError) = some true
theorem bd_is_name {P : Program} {w : World} {K : PySem.W.Frag} {mg : Str → Option Value} {a : Ads} (T : Txt P w K mg a) : Binds K a.d_is_name ["value"] [] := T.fn_is_name.binds (ps := ["value"]) fun _ _ _ _ _ _ us hl => match us, hl with | [_], _ => rfl
theorem bd_are_unlike_names {P : Program} {w : World} {K : PySem.W.Frag} {mg : Str → Option Value} {a : Ads} (T : Txt P w K mg a) : Binds K a.d_are_unlike_names ["values"] [] := T.fn_are_unlike_names.binds (ps := ["values"]) fun _ _ _ _ _ _ us hl => match us, hl with | [_], _ => rfl
theorem bd__law_pen {P : Program} {w : World} {K : PySem.W.Frag} {mg : Str → Option Value} {a : Ads} (T : Txt P w K mg a) : Binds K a.d__law_pen ["_law_script"] [] := T.fn__law_pen.binds (ps := ["_law_script"]) fun _ _ _ _ _ _ us hl => match us, hl with | [_], _ => rfl
theorem bd__law_draw {P : Program} {w : World} {K : PySem.W.Frag} {mg : Str → Option Value} {a : Ads} (T : Txt P w K mg a) : Binds K a.d__law_draw ["_law_pen_here", "_law_many"] [] := T.fn__law_draw.binds (ps := ["_law_pen_here", "_law_many"]) fun _ _ _ _ _ _ us hl => match us, hl with | [_, _], _ => rfl
theorem bd__law_pick {P : Program} {w : World} {K : PySem.W.Frag} {mg : Str → Option Value} {a : Ads} (T : Txt P w K mg a) : Binds K a.d__law_pick ["_law_pen_here", "_law_some"] [] := T.fn__law_pick.binds (ps := ["_law_pen_here", "_law_some"]) fun _ _ _ _ _ _ us hl => match us, hl with | [_, _], _ => rfl
theorem bd__law_drawn_name {P : Program} {w : World} {K : PySem.W.Frag} {mg : Str → Option Value} {a : Ads} (T : Txt P w K mg a) : Binds K a.d__law_drawn_name ["_law_pen_here"] [] := T.fn__law_drawn_name.binds (ps := ["_law_pen_here"]) fun _ _ _ _ _ _ us hl => match us, hl with | [_], _ => rfl
theorem bd__law_is_name {P : Program} {w : World} {K : PySem.W.Frag} {mg : Str → Option Value} {a : Ads} (T : Txt P w K mg a) : Binds K a.d__law_is_name ["_law_thing"] [] := T.fn__law_is_name.binds (ps := ["_law_thing"]) fun _ _ _ _ _ _ us hl => match us, hl with | [_], _ => rfl
theorem bd__law_wrong_part {P : Program} {w : World} {K : PySem.W.Frag} {mg : Str → Option Value} {a : Ads} (T : Txt P w K mg a) : Binds K a.d__law_wrong_part ["_law_name", "_law_groups"] [] := T.fn__law_wrong_part.binds (ps := ["_law_name", "_law_groups"]) fun _ _ _ _ _ _ us hl => match us, hl with | [_, _], _ => rfl
theorem bd__law_made_user {P : Program} {w : World} {K : PySem.W.Frag} {mg : Str → Option Value} {a : Ads} (T : Txt P w K mg a) : Binds K a.d__law_made_user ["_law_is_chief", "_law_name", "_law_groups"] [] := T.fn__law_made_user.binds (ps := ["_law_is_chief", "_law_name", "_law_groups"]) fun _ _ _ _ _ _ us hl => match us, hl with | [_, _, _], _ => rfl
theorem bd__law_heard {P : Program} {w : World} {K : PySem.W.Frag} {mg : Str → Option Value} {a : Ads} (T : Txt P w K mg a) : Binds K a.d__law_heard ["_law_is_chief", "_law_name", "_law_groups"] [] := T.fn__law_heard.binds (ps := ["_law_is_chief", "_law_name", "_law_groups"]) fun _ _ _ _ _ _ us hl => match us, hl with | [_, _, _], _ => rfl
theorem bd__law_right {P : Program} {w : World} {K : PySem.W.Frag} {mg : Str → Option Value} {a : Ads} (T : Txt P w K mg a) : Binds K a.d__law_right ["_law_is_chief", "_law_name", "_law_groups"] [] := T.fn__law_right.binds (ps := ["_law_is_chief", "_law_name", "_law_groups"]) fun _ _ _ _ _ _ us hl => match us, hl with | [_, _, _], _ => rfl
theorem bd_User_name {P : Program} {w : World} {K : PySem.W.Frag} {mg : Str → Option Value} {a : Ads} (T : Txt P w K mg a) : Binds K a.d_User_name ["self"] [] := T.fn_User_name.binds (ps := ["self"]) fun _ _ _ _ _ _ us hl => match us, hl with | [_], _ => rfl
theorem bd_User_groups {P : Program} {w : World} {K : PySem.W.Frag} {mg : Str → Option Value} {a : Ads} (T : Txt P w K mg a) : Binds K a.d_User_groups ["self"] [] := T.fn_User_groups.binds (ps := ["self"]) fun _ _ _ _ _ _ us hl => match us, hl with | [_], _ => rfl
theorem bd_BadUserD_initD {P : Program} {w : World} {K : PySem.W.Frag} {mg : Str → Option Value} {a : Ads} (T : Txt P w K mg a) : Binds K a.d_BadUserD_initD ["self", "part"] [] := T.fn_BadUserD_initD.binds (ps := ["self", "part"]) fun _ _ _ _ _ _ us hl => match us, hl with | [_, _], _ => rfl
theorem bd_UserD_eqD {P : Program} {w : World} {K : PySem.W.Frag} {mg : Str → Option Value} {a : Ads} (T : Txt P w K mg a) : Binds K a.d_UserD_eqD ["self", "other"] [] := T.fn_UserD_eqD.binds (ps := ["self", "other"]) fun _ _ _ _ _ _ us hl => match us, hl with | [_, _], _ => rfl
end KI
set_option Elab.async false
set_option linter.all false
set_option maxRecDepth 100000
set_option maxHeartbeats 4000000
namespace KI
open PySem PySem.Spec PyProof.Rows L2 Evl KF
local macro_rules | `(tactic| walk_at "ev") => `(tactic| repeat' (first | exact ev_c | exact ev_var rfl | exact rv_I0 | refine' rv_I ?_ | refine' rv_eq ?_ | refine' rv_ne ?_ | refine' ev_op ?_ ?_ ?_ | exact ea_nil | refine' ea_cons ?_ ?_ | refine' et_test ?_ | refine' et_B ?_ | refine' et_not ?_ | refine' ev_notV ?_))

open PySem
def lettersS : Str := "abcdefghijklmnopqrstuvwxyz"
/-- is it a name: one to eight letters -/
def nmS (s : Str) : Bool := (decide (1 ≤ s.cps.size) && decide (s.cps.size ≤ 8)) && s.cps.toList.all fun c => decide (c ∈ lettersS.cps.toList)
def nmV : V → Bool
  | .str s => nmS s
  | _ => false
/-- what may be handed for a name -/
def OddV (K : PySem.W.Frag) (H : Hp) (x : V) : Prop := (∃ s : Str, x = .str s ∧ s.cps.size ≤ 1000) ∨ (nmV x = false ∧ ∃ t : String, TyE K H x t ∧ kitB t "str" = some false)
theorem OddV.mono {K : PySem.W.Frag} {H H' : Hp} {x : V} (h : OddV K H x) (e : Ex H H') : OddV K H' x := h.elim .inl fun ⟨n, t, ty, k⟩ => .inr ⟨n, t, fun H2 e2 => ty H2 (e.trans e2), k⟩
/-- the texts among them -/
def strOf : V → Option Str
  | .str s => some s
  | _ => none
def unV (xs : List V) : Bool := decide ((xs.filterMap strOf).Nodup)
def spName (K : PySem.W.Frag) : Sp := fun vs H Q _ => ∃ x : V, vs = [x] ∧ OddV K H x ∧ ∀ H', Ex H H' → Q (.bl (nmV x)) H'
def spUnlike (K : PySem.W.Frag) : Sp := fun vs H Q _ => ∃ (l : Addr) (xs : List V), vs = [.ref l] ∧ H l = some (.tup xs) ∧ xs.length ≤ 2 ∧ (∀ x ∈ xs, OddV K H x) ∧ ∀ H', Ex H H' → Q (.bl (xs.all nmV && unV xs)) H'
theorem all_range {α : Type} (f : α → Bool) (xs : List α) : ((List.range xs.length).map fun i => ((xs[i]?).map f).getD true).all id = xs.all f := by
  rw [Bool.eq_iff_iff, List.all_eq_true, List.all_eq_true]
  constructor
  · intro h x hx
    obtain ⟨i, hi, e⟩ := List.mem_iff_getElem.mp hx
    have := h _ (List.mem_map.mpr ⟨i, List.mem_range.mpr hi, rfl⟩)
    rw [List.getElem?_eq_getElem hi, e] at this
    exact this
  · intro h b hb
    obtain ⟨i, hi, rfl⟩ := List.mem_map.mp hb
    have hi := List.mem_range.mp hi
    rw [List.getElem?_eq_getElem hi]
    exact h _ (List.getElem_mem hi)
theorem strs_of {xs : List V} (h : xs.all nmV = true) : xs = (xs.filterMap strOf).map V.str := by
  induction xs with
  | nil => rfl
  | cons x r ih =>
    rw [List.all_cons, Bool.and_eq_true] at h
    cases x with
    | str s =>
      rw [List.filterMap_cons]
      show _ = V.str s :: _
      rw [← ih h.2]
    | _ => exact absurd h.1 (by simp [nmV])
theorem unlike_iff {xs : List Str} (h : xs.length ≤ 2) : (KS.unlike xs xs.length = xs.length) ↔ xs.Nodup := by
  match xs, h with
  | [], _ => exact ⟨fun _ => .nil, fun _ => rfl⟩
  | [a], _ => exact ⟨fun _ => by simp, fun _ => rfl⟩
  | [a, b], _ =>
    show KS.unlike [a, b] 2 = 2 ↔ _
    rw [KS.unlike_two]
    by_cases e : a = b
    · subst e
      rw [if_pos rfl]
      simp
    · rw [if_neg e]
      simp [e]
  | _ :: _ :: _ :: _, h => simp at h
section
variable {K : PySem.W.Frag} {σ : L2.St} {H H' : Hp} {ta tb te : TE} {x y z v : V} {t : Value} {b : Bool} {p : Addr}
theorem rv_inS {c : Nat} {w : Str} : RV (fun x y H Q => ∃ (c : Nat) (z : Str), x = .str ⟨#[c]⟩ ∧ y = .str z ∧ Q (.bl (decide (c ∈ z.cps.toList))) H) (.str ⟨#[c]⟩) (.str w) H (.bl (decide (c ∈ w.cps.toList))) := fun H1 _ _ q => ⟨c, w, rfl, rfl, q H1 (Ex.refl H1)⟩
theorem ev_lenStr {s : Str} (h : Ev te σ H (.str s)) (hz : s.length ≤ 100000) : Ev (tCB (fun xs H Q => ∃ z : Str, xs = [.str z] ∧ z.length ≤ sizeLine ∧ Q (.int z.length) H) (tCons te tNil)) σ H (.int (s.length : Nat)) := fun H1 e Q q => h H1 e _ fun H2 e2 => ⟨s, rfl, sz_of hz, q H2 e2⟩
theorem ev_lenSet {xs : List Str} (h : Ev te σ H (.ref p)) (hp : H p = some (.tup (xs.map V.str))) (hz : xs.length ≤ 1000) : Ev (KS.tLenT K te) σ H (.int (KS.unlike xs xs.length : Nat)) := fun H1 e Q q => h H1 e _ fun H2 e2 => ⟨p, xs, rfl, .inr (st_of ((e.trans e2) _ _ hp)), hz, q H2 e2⟩
end
theorem s_ifRaw {σ : L2.St} {H : Hp} {t : TT} {ta tb : TE} {D : Ends} {b : Bool} (h : EvT t σ H b) (h1 : b = true → ∀ H1, Ex H H1 → ta σ H1 D.rt) (h2 : b = false → ∀ H1, Ex H H1 → tb σ H1 D.rt) : tRet (tIf t ta tb) D σ H := h H (Ex.refl H) _ fun H1 e1 => by
  cases b with
  | true => exact h1 rfl H1 e1
  | false => exact h2 rfl H1 e1
section
variable {σ : L2.St} {K : PySem.W.Frag} {H : Hp} {te ta tv : TE} {y : V} {D : Ends}
theorem ev_allL {bs : List Bool} (h : EvL te σ H (bs.map V.bl)) : Ev (tCB (rAll K) (tCons te tNil)) σ H (.bl (bs.all id)) := fun H1 e Q q => h H1 e _ fun p H2 _ e2 hp => ⟨p, bs, rfl, sq_of hp, q H2 e2⟩
end
section
variable {P : Program} {w : World} {K : PySem.W.Frag} {mg : Str → Option Value} {base : Heap} {a : Ads}
theorem ok_is_name (T : Txt P w K mg a) : FnOk P w K mg base CX0 1 a.f_is_name a.d_is_name ["value"] (spName K) := by
  refine T.fn_is_name.ok sc_is_name (fun vs H Q E h => ?_) (fun cdv A outer s H vs Q E hr h => ?_)
  · obtain ⟨_, rfl, _⟩ := h
    rfl
  · obtain ⟨x, rfl, odd, k⟩ := h
    refine ⟨_, (pss_cons (ps_if (PW.pt (pw_or (pt_not (pt_val (pe_callB call_isi (by rfl) T.b_isinstance PyProof.Rows.boot_isinstance (pa_cons (pv 0) (pa_cons (pe_bltn (v := .ty "str") (by rfl) T.b_str (by decide +kernel) rfl) pa_nil))))) (pw_or1 (pt_not (pt_chain op_le op_le pe_int (pe_callB call_len_str (by rfl) T.b_len PySem.boot_len (pa_cons (pv 0) pa_nil)) pe_int))))) (pss_one (ps_ret pe_bl)) pss_nil)
    (pss_one (ps_ret (pe_callB (cr_all rfl) (by rfl) T.b_all (by decide +kernel) (pa_cons (pe_lc (own := [("letter", 1)]) (g := gName 1) rfl sc_is_name.nd (pi_str (pv 0)) (blkOk_by (own := [("letter", 1)]) (N := n_is_name) (sc := defScope s_is_name) (by decide +kernel)) (fun _ _ _ _ _ => (pg_name (i := 1) sc_is_name.nd rfl (Or.inl rfl))) (fun _ _ _ _ _ => pts_nil) (fun _ _ _ _ _ => (pe_cmpR op_in_sign (pv 1) (pe_glob (v := .str "abcdefghijklmnopqrstuvwxyz") rfl T.mg_LETTERS.choose_spec ⟨_, rfl⟩) (by rfl)))) pa_nil))))), ?_⟩
    rcases odd with ⟨s, rfl, sz⟩ | ⟨no, t, ty, kt⟩
    · have hl : s.length = s.cps.size := rfl
      have hr2 : decide ((1 : Int) ≤ (s.length : Nat)) = decide (1 ≤ s.cps.size) := decide_eq_decide.mpr (by omega)
      have hr8 : decide (((s.length : Nat) : Int) ≤ 8) = decide (s.cps.size ≤ 8) := decide_eq_decide.mpr (by omega)
      refine q_when (b := !(decide (1 ≤ s.cps.size) && decide (s.cps.size ≤ 8))) (et_is (et_or (a := false) (b := !(decide (1 ≤ s.cps.size) && decide (s.cps.size ≤ 8))) (et_is (et_not (a := true) (et_B (ev_isi (ea_cons (ev_var rfl) (ea_cons ev_c ea_nil)) (.ty _) (fun _ _ => .base (.str _)) (kit_ty (by decide +kernel))))) rfl) fun _ => et_not (a := decide (1 ≤ s.cps.size) && decide (s.cps.size ≤ 8)) (et_test (ev_is (ev_chain ev_c (ev_lenStr (ev_var rfl) (by omega)) rv_I0 fun _ => ⟨ev_c, rv_I0⟩) ?_))) rfl) (fun hb H1 e1 => ?_) fun hb H1 e1 => ?_
      · rw [hr2, hr8]
      · refine s_ret (v := .bl false) ev_c fun H2 e2 => ?_
        have := k H2 (e1.trans e2)
        have z : nmV (.str s) = false := by
          show nmS s = false
          unfold nmS
          cases hh : (decide (1 ≤ s.cps.size) && decide (s.cps.size ≤ 8)) with
          | true =>
            rw [hh] at hb
            exact nomatch hb
          | false => rfl
        rw [z] at this
        exact this
      · have hh : (decide (1 ≤ s.cps.size) && decide (s.cps.size ≤ 8)) = true := by
          cases hh : (decide (1 ≤ s.cps.size) && decide (s.cps.size ≤ 8)) with
          | true => rfl
          | false =>
            rw [hh] at hb
            exact nomatch hb
        have z : nmV (.str s) = ((List.range s.cps.toList.length).map fun i => ((s.cps.toList[i]?).map fun c => decide (c ∈ lettersS.cps.toList)).getD true).all id := by
          rw [all_range]
          show nmS s = _
          unfold nmS
          rw [hh]
          rfl
        refine s_ret (v := .bl (nmV (.str s))) (ev_is (ev_allL (bs := (List.range s.cps.toList.length).map fun i => ((s.cps.toList[i]?).map fun c => decide (c ∈ lettersS.cps.toList)).getD true) (K := K) (el_is (el_lcS (s := s) (fun _ => true) (fun i => .bl (((s.cps.toList[i]?).map fun c => decide (c ∈ lettersS.cps.toList)).getD true)) (ev_var rfl) (by omega) (fun _ => rfl) (fun i c H4 e4 hx => et_yes) fun i c H4 e4 hx _ => ?_) ?_)) (congrArg V.bl z.symm)) fun H2 e2 => k H2 (e1.trans e2)
        · rw [← Array.getElem?_toList] at hx
          rw [hx]
          exact ev_op (ev_var rfl) ev_c rv_inS
        · rw [given_all, List.map_map]
          rfl
    · rw [no] at k
      refine q_when (b := true) (et_or (a := true) (b := true) (et_is (et_not (a := false) (et_B (ev_isi (ea_cons (ev_var rfl) (ea_cons ev_c ea_nil)) (.ty _) ty (kit_ty kt)))) rfl) fun z => nomatch z) (fun _ H1 e1 => ?_) fun z => nomatch z
      exact s_ret (v := .bl false) ev_c fun H2 e2 => k H2 (e1.trans e2)
theorem ok_unlike (T : Txt P w K mg a) : FnOk P w K mg base CX0 2 a.f_are_unlike_names a.d_are_unlike_names ["values"] (spUnlike K) := by
  have G_is_name : FnOk P w K mg base CX0 1 _ _ _ _ := ok_is_name T
  refine T.fn_are_unlike_names.ok sc_are_unlike_names (fun vs H Q E h => ?_) (fun cdv A outer s H vs Q E hr h => ?_)
  · obtain ⟨_, _, rfl, _⟩ := h
    rfl
  · obtain ⟨l, xs, rfl, hl, h2, ok, k⟩ := h
    have hrc : Room 1 _ := hr
    refine ⟨_, (pss_cons (ps_if (pt_not (pt_val (pe_callB (cr_all rfl) (by rfl) T.b_all (by decide +kernel) (pa_cons (pe_lc (own := [("value", 1)]) (g := gName 1) rfl sc_are_unlike_names.nd (pi_tup (pv 0)) (blkOk_by (own := [("value", 1)]) (N := n_are_unlike_names) (sc := defScope s_are_unlike_names) (by decide +kernel)) (fun _ _ _ _ _ => (pg_name (i := 1) sc_are_unlike_names.nd rfl (Or.inl rfl))) (fun _ _ _ _ _ => pts_nil) (fun _ _ _ _ _ => (pe_call G_is_name hrc rfl T.mg_is_name T.fn_is_name.kp (bd_is_name T) .nil pass0 (pa_cons (pv 1) pa_nil)))) pa_nil)))) (pss_one (ps_ret pe_bl)) pss_nil)
    (pss_one (ps_ret (pe_cmpR op_eq (KS.pe_lenT (K := K) rfl rfl (by rfl) T.b_len (by rfl) T.b_set (pv 0)) (pe_callB call_len_seq (by rfl) T.b_len PySem.boot_len (pa_cons (pv 0) pa_nil)) (nomark _))))), ?_⟩
    refine q_when (b := !xs.all nmV) (et_not (a := xs.all nmV) (et_B (ev_is (ev_allL (bs := (List.range xs.length).map fun i => ((xs[i]?).map nmV).getD true) (K := K) (el_is (el_lcW (K := K) (xs := xs) (fun _ => true) (fun i => .bl (((xs[i]?).map nmV).getD true)) (ew_of (ev_var rfl) hl) (by omega) (fun _ => rfl) (fun i x H4 e4 hx => et_yes) fun i x H4 e4 hx _ => ?_) ?_)) (congrArg V.bl (all_range nmV xs))))) (fun hb H1 e1 => ?_) fun hb H1 e1 => ?_
    · rw [hx]
      exact ev_call (vs := [x]) (ea_cons (ev_var rfl) ea_nil) fun H5 e5 Q q E => ⟨x, rfl, (ok x (List.mem_of_getElem? hx)).mono (e4.trans e5), q⟩
    · rw [given_all, List.map_map]
      rfl
    · have z : xs.all nmV = false := by
        cases h : xs.all nmV with
        | false => rfl
        | true =>
          rw [h] at hb
          exact nomatch hb
      refine s_ret (v := .bl (xs.all nmV && unV xs)) (ev_is ev_c ?_) fun H2 e2 => k H2 (e1.trans e2)
      rw [z]
      rfl
    · have z : xs.all nmV = true := by
        cases h : xs.all nmV with
        | true => rfl
        | false =>
          rw [h] at hb
          exact nomatch hb
      have hl1 := e1 _ _ hl
      have es := strs_of z
      have hl2 : H1 l = some (.tup ((xs.filterMap strOf).map V.str)) := by rw [← es]; exact hl1
      have h2' : (xs.filterMap strOf).length ≤ 2 := by
        have := congrArg List.length es
        rw [List.length_map] at this
        omega
      have hlen : (xs.filterMap strOf).length = xs.length := by
        have := congrArg List.length es
        rw [List.length_map] at this
        omega
      refine s_ret (v := .bl (xs.all nmV && unV xs)) (ev_is (ev_op (ev_lenSet (K := K) (ev_var rfl) hl2 (by omega)) (ev_lenW (K := K) (ew_of (ev_var rfl) hl1)) (rv_eq rfl)) (congrArg V.bl ?_)) fun H2 e2 => k H2 (e1.trans e2)
      rw [z, Bool.true_and]
      unfold unV
      refine decide_eq_decide.mpr ?_
      rw [← unlike_iff h2', hlen]
      constructor
      · intro h
        injection h with h
        omega
      · intro h
        rw [h]
end
end KI
set_option Elab.async false
set_option linter.all false
set_option maxRecDepth 100000
set_option maxHeartbeats 4000000
namespace KI
open PySem PySem.Spec PyProof.Rows L2 Evl KF
local macro_rules | `(tactic| walk_at "ev") => `(tactic| repeat' (first | exact ev_c | exact ev_var rfl | exact rv_I0 | refine' rv_I ?_ | refine' rv_eq ?_ | refine' rv_ne ?_ | refine' ev_op ?_ ?_ ?_ | exact ea_nil | refine' ea_cons ?_ ?_ | refine' et_test ?_ | refine' et_B ?_ | refine' et_not ?_ | refine' ev_notV ?_))

open PySem
/-! BadUser is raised -/
def spBadI (a : Ads) : Sp := fun vs H Q _ => ∃ (e : Addr) (v : V), vs = [.ref e, v] ∧ H e = some (exo e a.x_BadUser none) ∧ ∀ dx, H dx = none → dx ≠ e → Q .non (upd (upd H dx (exd dx [(("part" : Str), v)])) e (exo e a.x_BadUser (some dx)))
/-- an error's dict, new: its part is s -/
def Told (a : Ads) (E : XK) (H : Hp) (s : Str) : Prop := ∀ d H', H d = none → Ex H H' → H' d = some (.xd [(("part" : Str), .str s)]) → E (.ref a.x_BadUser) (some d) H'
theorem Told.back {a : Ads} {E : XK} {H H1 : Hp} {s : Str} (h : Told a E H s) (e : Ex H H1) : Told a E H1 s := fun d H' hd e' h' => h d H' (fresh_back e hd) (e.trans e') h'
/-- what raise BadUser(s) asks, and what it leaves -/
theorem raise_told {a : Ads} {E : XK} {H : Hp} {s : Str} (h : Told a E H s) : ∀ e, H e = none → spBadI a (.ref e :: ([.str s] ++ [])) (upd H e (exo e a.x_BadUser none)) (fun v H2 => v = .non ∧ ∃ (d : Addr) (fs : List (Str × V)), H2 e = some (exo e a.x_BadUser (some d)) ∧ H2 d = some (exd d fs) ∧ H d = none ∧ E (.ref a.x_BadUser) (some d) (upd (del H2 e) d (.xd fs))) (fun _ _ _ => False) := fun e he =>
  ⟨e, .str s, rfl, upd_same, fun dx hdx ne => by
    have hd : H dx = none := by rw [upd_ne ne] at hdx; exact hdx
    refine ⟨rfl, dx, [(("part" : Str), .str s)], upd_same, by rw [upd_ne ne, upd_same], hd, h dx _ hd (fun b o hb => ?_) upd_same⟩
    have be := ne_of_none hb he
    have bd := ne_of_none hb hd
    rw [upd_ne bd, del_ne be, upd_ne be, upd_ne bd, upd_ne be]
    exact hb⟩
section
variable {P : Program} {w : World} {K : PySem.W.Frag} {mg : Str → Option Value} {base : Heap} {a : Ads}
theorem ok_BadUser_init (T : Txt P w K mg a) : FnOk P w K mg base CX0 1 a.f_BadUserD_initD a.d_BadUserD_initD ["self", "part"] (spBadI a) := by
  refine T.fn_BadUserD_initD.ok sc_BadUserD_initD (fun vs H Q E h => ?_) (fun cdv A outer s H vs Q E hr h => ?_)
  · obtain ⟨_, _, rfl, _⟩ := h
    rfl
  · obtain ⟨e, v, rfl, he, k⟩ := h
    refine ⟨_, (pss_one (ps_ost (pv 0) (pv 1))), ?_⟩
    exact ⟨v, rfl, .ref e, rfl, e, a.x_BadUser, rfl, T.ox_BadUser, T.np_BadUser, .inl ⟨he, fun dx hdx ne => k dx hdx ne⟩⟩
end
end KI
set_option Elab.async false
set_option linter.all false
set_option maxRecDepth 100000
set_option maxHeartbeats 4000000
namespace KI
open PySem PySem.Spec PyProof.Rows L2 Evl KF
local macro_rules | `(tactic| walk_at "ev") => `(tactic| repeat' (first | exact ev_c | exact ev_var rfl | exact rv_I0 | refine' rv_I ?_ | refine' rv_eq ?_ | refine' rv_ne ?_ | refine' ev_op ?_ ?_ ?_ | exact ea_nil | refine' ea_cons ?_ ?_ | refine' et_test ?_ | refine' et_B ?_ | refine' et_not ?_ | refine' ev_notV ?_))

open PySem
/-! ### users and chiefs, of anything -/
def usFs (nm : Str) (t : Addr) : List (Str × V) := putF "_groups" (.ref t) (putF "_name" (.str nm) [])
theorem fs_name (nm : Str) (t : Addr) : (usFs nm t).lookup ("_name" : Str) = some (.str nm) := by
  unfold usFs
  rw [lookup_putF, if_neg (by decide +kernel), lookup_putF, if_pos rfl]
theorem fs_groups (nm : Str) (t : Addr) : (usFs nm t).lookup ("_groups" : Str) = some (.ref t) := by
  unfold usFs
  rw [lookup_putF, if_pos rfl]
def UserAt (H : Hp) (b C : Addr) (nm : Str) (gs : List Str) : Prop := ∃ dx t, H b = some (.ins C dx (usFs nm t)) ∧ H t = some (.tup (gs.map V.str))
theorem UserAt.mono {H H' : Hp} {b C : Addr} {nm : Str} {gs : List Str} (h : UserAt H b C nm gs) (e : Ex H H') : UserAt H' b C nm gs := let ⟨dx, t, h1, h2⟩ := h; ⟨dx, t, e _ _ h1, e _ _ h2⟩
def IsU (a : Ads) (C : Addr) : Prop := C = a.f_User ∨ C = a.f_Chief
/-- may these be a user's groups -/
def gsOk (xs : List V) : Bool := decide (xs.length ≤ 2) && (xs.all nmV && unV xs)
/-- which part is wrong -/
def partOf (x : V) (xs : List V) : Option Str := if nmV x = false then some "name" else if gsOk xs = false then some "groups" else none
structure MayBe (K : PySem.W.Frag) (H : Hp) (x : V) (xs : List V) : Prop where
  le : xs.length ≤ 4
  name : OddV K H x
  gs : ∀ y ∈ xs, OddV K H y
theorem MayBe.mono {K : PySem.W.Frag} {H H' : Hp} {x : V} {xs : List V} (h : MayBe K H x xs) (e : Ex H H') : MayBe K H' x xs := ⟨h.le, h.name.mono e, fun y hy => (h.gs y hy).mono e⟩
/-- how making one goes -/
def Making (K : PySem.W.Frag) (a : Ads) (b C : Addr) (x : V) (xs : List V) (H : Hp) (Q : VK) (E : XK) : Prop := (partOf x xs = none → ∀ (nm : Str) (gs : List Str) H', x = .str nm → xs = gs.map V.str → ExB b H H' → UserAt H' b C nm gs → Q .non H') ∧ ∀ s, partOf x xs = some s → Told a E H s
def spUser (K : PySem.W.Frag) (a : Ads) : Sp := fun vs H Q E => ∃ (b C dx p : Addr) (x : V) (xs : List V), vs = [.ref b, x, .ref p] ∧ IsU a C ∧ MayBe K H x xs ∧ H b = some (.ins C dx []) ∧ H p = some (.tup xs) ∧ Making K a b C x xs H Q E
def spMadeU (K : PySem.W.Frag) (a : Ads) (C : Addr) : Sp := fun vs H Q E => ∃ (b dx : Addr) (x : V) (xs : List V), vs = .ref b :: x :: xs ∧ MayBe K H x xs ∧ H b = some (.ins C dx []) ∧ Making K a b C x xs H Q E
theorem s_fld {K : PySem.W.Frag} {σ : L2.St} {H : Hp} {ta tv : TE} {y : V} {D : Ends} {p C dx : Addr} {fs : List (Str × V)} {f : Str} (hv : Ev tv σ H y) (ha : Ev ta σ H (.ref p)) (hp : H p = some (.ins C dx fs)) (c : Cls K C) (n : NoAttr K C f) (hl : fs.length < 1000)
    (k : ∀ H1, ExB p H H1 → H1 p = some (.ins C dx (putF f y fs)) → D.nx σ H1) : sFld K ta tv f D σ H :=
  hv H (Ex.refl H) _ fun H1 e1 => ha H1 e1 _ fun H2 e2 => ⟨p, C, dx, fs, rfl, e2 _ _ (e1 _ _ hp), c, n, hl, k _ (fun b o hb ne => by rw [upd_ne ne]; exact e2 _ _ (e1 _ _ hb)) upd_same⟩
theorem str_of {x : V} (h : nmV x = true) : ∃ s, x = .str s := by
  cases x with
  | str s => exact ⟨s, rfl⟩
  | _ => exact absurd h (by simp [nmV])
theorem not_f {b : Bool} (h : (!b) = false) : b = true := by
  cases b
  · exact nomatch h
  · rfl
theorem not_t {b : Bool} (h : (!b) = true) : b = false := by
  cases b
  · rfl
  · exact nomatch h
section
variable {P : Program} {w : World} {K : PySem.W.Frag} {mg : Str → Option Value} {base : Heap} {a : Ads}
theorem IsU.cls {C : Addr} (h : IsU a C) (T : Txt P w K mg a) : Cls K C ∧ NoAttr K C "_name" ∧ NoAttr K C "_groups" := by
  rcases h with rfl | rfl
  · exact ⟨T.c_User, T.n_name_User, T.n_groups_User⟩
  · exact ⟨T.c_Chief, T.n_name_Chief, T.n_groups_Chief⟩
theorem ok_User_init (T : Txt P w K mg a) : FnR P w K mg base (L2.CX P w) 4 a.f_UserD_initD (fun vs H Q E => ∃ xs rest, vs = xs ++ rest ∧ xs.length = (["self", "name"] : List Str).length ∧ rest.length ≤ 4 ∧ ∀ p, H p = none → spUser K a (xs ++ [.ref p]) (upd H p (.tup rest)) Q E) := by
  have G_is_name : FnOk P w K mg base CX0 3 _ _ _ _ := (ok_is_name T).mono (by decide)
  have G_are_unlike_names : FnOk P w K mg base CX0 3 _ _ _ _ := (ok_unlike T).mono (by decide)
  have G_BadUser_init : FnOk P w K mg base CX0 2 _ _ _ _ := (ok_BadUser_init T).mono (by decide)
  obtain ⟨oc, kV, doc, pm, ct, od, an, osl, e, lk, hcd⟩ := T.fn_UserD_initD
  refine KU.fn_star (F := (⟨"__init__", "User.__init__", defArgs s_UserD_initD, defBody s_UserD_initD, defScope s_UserD_initD, [], a.c_UserD_initD⟩ : NdefX.NF)) (as := ["self", "name"]) (pv := "groups") lk e hcd rfl sc_UserD_initD (Nat.le_of_lt (small1000 (by decide))) (fun us rest h1 h2 => ?_) KU.cxnew fun A outer s H vs Q E hr h => ?_
  · rw [e]
    match us, rest, h1, h2 with
    | [_, _], [], _, _ => rfl
    | [_, _], [_], _, _ => rfl
    | [_, _], [_, _], _, _ => rfl
    | [_, _], [_, _, _], _, _ => rfl
    | [_, _], [_, _, _, _], _, _ => rfl
  · obtain ⟨b, C, dx, p, x, xs, rfl, isu, mb, hb, hp, good, bad⟩ := h
    have hrc : Room 3 _ := hr
    have hrm2 : Room (2 + 1) _ := hr
    obtain ⟨tm, hm⟩ := T.k_User_GROUPS
    obtain ⟨cC, nN, nG⟩ := isu.cls T
    refine ⟨_, (pss_cons (ps_if (pt_not (pt_val (pe_call G_is_name hrc rfl T.mg_is_name T.fn_is_name.kp (bd_is_name T) .nil pass0 (pa_cons (pv 1) pa_nil)))) (pss_one (ps_raise rfl (takes_of rfl rfl rfl rfl) (pmk_oex T.ox_BadUser T.ic_BadUser T.it_BadUser G_BadUser_init hrm2 (bd_BadUserD_initD T) .nil pass0 rfl T.mg_BadUser (pa_cons pe_str pa_nil)))) pss_nil)
    (pss_cons (ps_if (PW.pt (pw_or (pt_cmpR op_gt (pe_callB call_len_seq (by rfl) T.b_len PySem.boot_len (pa_cons (pv 2) pa_nil)) (ClX.pe_cval (pe_glob (v := .ref a.f_User) rfl T.mg_User rfl)) (nomark _)) (pw_or1 (pt_not (pt_val (pe_call G_are_unlike_names hrc rfl T.mg_are_unlike_names T.fn_are_unlike_names.kp (bd_are_unlike_names T) .nil pass0 (pa_cons (pv 2) pa_nil))))))) (pss_one (ps_raise rfl (takes_of rfl rfl rfl rfl) (pmk_oex T.ox_BadUser T.ic_BadUser T.it_BadUser G_BadUser_init hrm2 (bd_BadUserD_initD T) .nil pass0 rfl T.mg_BadUser (pa_cons pe_str pa_nil)))) pss_nil)
    (pss_cons (ps_fld (pv 0) (pv 1) rfl)
    (pss_one (ps_fld (pv 0) (pv 2) rfl))))), ?_⟩
    have le4 := mb.le
    refine q_when (b := !nmV x) (et_not (a := nmV x) (et_B (ev_call (vs := [x]) (ea_cons (ev_var rfl) ea_nil) fun H2 e Q q E => ⟨x, rfl, mb.name.mono e, q⟩))) (fun hb1 H1 e1 => ?_) fun hb1 H1 e1 => ?_
    · have z := not_t hb1
      exact ⟨by show 1 ≤ 1000; decide, raise_told ((bad "name" (by unfold partOf; rw [if_pos z])).back e1)⟩
    have z := not_f hb1
    have hp1 := e1 _ _ hp
    refine q_when (b := !gsOk xs) (et_is (et_or (a := !decide (xs.length ≤ 2)) (b := !gsOk xs) (et_is (et_test (ev_op (ev_lenW (K := K) (ew_of (ev_var rfl) hp1)) (ev_cval ev_c T.r_User hm) rv_I0)) ?_) fun h2 => et_is (et_not (a := xs.all nmV && unV xs) (et_B (ev_call (vs := [.ref p]) (ea_cons (ev_var rfl) ea_nil) fun H2 e Q q E => ⟨p, xs, rfl, e _ _ hp1, of_decide_eq_true (not_f h2), fun y hy => (mb.gs y hy).mono (e1.trans e), q⟩))) ?_) ?_) (fun hb2 H2 e2 => ?_) fun hb2 H2 e2 => ?_
    · by_cases h2 : xs.length ≤ 2
      · rw [decide_eq_true h2]
        exact decide_eq_false (by omega)
      · rw [decide_eq_false h2]
        exact decide_eq_true (by omega)
    · unfold gsOk
      rw [not_f h2, Bool.true_and]
    · unfold gsOk
      cases decide (xs.length ≤ 2) <;> rfl
    · have z2 := not_t hb2
      exact ⟨by show 1 ≤ 1000; decide, raise_told ((bad "groups" (by unfold partOf; rw [if_neg (by rw [z]; decide), if_pos z2])).back (e1.trans e2))⟩
    have z2 := not_f hb2
    obtain ⟨nm, rfl⟩ := str_of z
    refine q_fld (y := .str nm) (ev_var rfl) (ev_var rfl) ((e1.trans e2) _ _ hb) cC nN (by decide) fun H3 e3 hb3 => ?_
    have tb : p ≠ b := ne_of hp hb fun z => nomatch z
    refine s_fld (y := .ref p) (ev_var rfl) (ev_var rfl) hb3 cC nG (by show 1 < 1000; decide) fun H4 e4 hb4 => ?_
    have ex : ExB b H H4 := ((ExB.of (e1.trans e2)).trans e3).trans e4
    have all : xs.all nmV = true := by
      unfold gsOk at z2
      rw [Bool.and_eq_true, Bool.and_eq_true] at z2
      exact z2.2.1
    have es := strs_of all
    refine good (by unfold partOf; rw [if_neg (by rw [z]; decide), if_neg (by rw [z2]; decide)]) nm (xs.filterMap strOf) H4 rfl es ex ⟨dx, p, hb4, ?_⟩
    rw [← es]
    exact ex _ _ hp tb
end
end KI
set_option Elab.async false
set_option linter.all false
set_option maxRecDepth 100000
set_option maxHeartbeats 4000000
namespace KI
open PySem PySem.Spec PyProof.Rows L2 Evl KF
local macro_rules | `(tactic| walk_at "ev") => `(tactic| repeat' (first | exact ev_c | exact ev_var rfl | exact rv_I0 | refine' rv_I ?_ | refine' rv_eq ?_ | refine' rv_ne ?_ | refine' ev_op ?_ ?_ ?_ | exact ea_nil | refine' ea_cons ?_ ?_ | refine' et_test ?_ | refine' et_B ?_ | refine' et_not ?_ | refine' ev_notV ?_))

open PySem
/-! ### Chief by super(), what both are when made -/
/-- a chief's __init__ behind its star -/
def spUserC (K : PySem.W.Frag) (a : Ads) : Sp := fun vs H Q E => ∃ (b dx p : Addr) (x : V) (xs : List V), vs = [.ref b, x, .ref p] ∧ MayBe K H x xs ∧ H b = some (.ins a.f_Chief dx []) ∧ H p = some (.tup xs) ∧ Making K a b a.f_Chief x xs H Q E
theorem Making.on {K : PySem.W.Frag} {a : Ads} {b C : Addr} {x : V} {xs : List V} {H H1 : Hp} {Q : VK} {E : XK} (h : Making K a b C x xs H Q E) (e : Ex H H1) : Making K a b C x xs H1 Q E :=
  ⟨fun n nm gs H' e1 e2 ex u => h.1 n nm gs H' e1 e2 ((ExB.of e).trans ex) u, fun s n => (h.2 s n).back e⟩
section
variable {P : Program} {w : World} {K : PySem.W.Frag} {mg : Str → Option Value} {base : Heap} {a : Ads}
theorem ok_Chief_init (T : Txt P w K mg a) : FnR P w K mg base (L2.CX P w) 5 a.f_ChiefD_initD (fun vs H Q E => ∃ xs rest, vs = xs ++ rest ∧ xs.length = (["self", "name"] : List Str).length ∧ rest.length ≤ 4 ∧ ∀ p, H p = none → spUserC K a (xs ++ [.ref p]) (upd H p (.tup rest)) Q E) := by
  refine KU.fn_superV (F := (⟨"__init__", "Chief.__init__", defArgs s_ChiefD_initD, defBody s_ChiefD_initD, defScope s_ChiefD_initD, [("__class__", a.cc_ChiefD_initD)], a.c_ChiefD_initD⟩ : NdefX.NF)) (as := ["self", "name"]) (pv := "groups") (t := tCons (tVar 1) (StX.tStar K (tVar 2) tNil)) (E' := id) T.su_ChiefD_initD sc_ChiefD_initD rfl (Nat.le_of_lt (small1000 (by decide))) (fun us rest h1 h2 => ?_) KU.cxnew rfl rfl rfl rfl T.b_super (fun _ => rfl) (fun _ => rfl) (fun _ _ _ _ _ => pa_cons (pv 1) (StX.pa_star (pv 2) pa_nil)) (fun _ => rfl) (ok_User_init T) (fun _ _ _ _ _ => (passes_call (takes_of rfl rfl rfl rfl) fun _ _ _ _ h => h)) fun vs H Q E h => ?_
  · obtain ⟨kV, doc, pm, ct, an, e⟩ := T.su_ChiefD_initD.fd_
    rw [e]
    match us, rest, h1, h2 with
    | [_, _], [], _, _ => rfl
    | [_, _], [_], _, _ => rfl
    | [_, _], [_, _], _, _ => rfl
    | [_, _], [_, _, _], _, _ => rfl
    | [_, _], [_, _, _, _], _, _ => rfl
  · obtain ⟨b, dx, p, x, xs, rfl, mb, hb, hp, mk⟩ := h
    refine ⟨b, a.f_Chief, dx, [], rfl, hb, T.sm_ChiefD_initD, fun q hq => ?_⟩
    have en : Ex H (upd H q (.met a.f_UserD_initD b)) := Ex.new hq
    refine ⟨_, rfl, _, rfl, p, xs, rfl, .inl (st_of (en _ _ hp)), upd_same, [.ref b, x], xs, by rw [List.append_nil] <;> rfl, rfl, mb.le, fun p2 hp2 => ?_⟩
    have en2 := Ex.new (o := .tup xs) hp2
    have mk2 := mk.on (en.trans en2)
    exact ⟨b, a.f_Chief, dx, p2, x, xs, rfl, .inr rfl, mb.mono (en.trans en2), en2 _ _ (en _ _ hb), upd_same, mk2⟩
theorem ok_made_U (T : Txt P w K mg a) : FnR P w K mg base (L2.CX P w) 5 a.f_UserD_initD (spMadeU K a a.f_User) := ((ok_User_init T).mono (by decide)).imp fun vs H Q E ⟨b, dx, x, xs, ev, mb, hb, mk⟩ =>
  ⟨[.ref b, x], xs, ev, rfl, mb.le, fun p hp => ⟨b, a.f_User, dx, p, x, xs, rfl, .inl rfl, mb.mono (Ex.new hp), Ex.new hp _ _ hb, upd_same, mk.on (Ex.new hp)⟩⟩
theorem ok_made_C (T : Txt P w K mg a) : FnR P w K mg base (L2.CX P w) 5 a.f_ChiefD_initD (spMadeU K a a.f_Chief) := (ok_Chief_init T).imp fun vs H Q E ⟨b, dx, x, xs, ev, mb, hb, mk⟩ =>
  ⟨[.ref b, x], xs, ev, rfl, mb.le, fun p hp => ⟨b, dx, p, x, xs, rfl, mb.mono (Ex.new hp), Ex.new hp _ _ hb, upd_same, mk.on (Ex.new hp)⟩⟩
end
end KI
set_option Elab.async false
set_option linter.all false
set_option maxRecDepth 100000
set_option maxHeartbeats 4000000
namespace KI
open PySem PySem.Spec PyProof.Rows L2 Evl KF
local macro_rules | `(tactic| walk_at "ev") => `(tactic| repeat' (first | exact ev_c | exact ev_var rfl | exact rv_I0 | refine' rv_I ?_ | refine' rv_eq ?_ | refine' rv_ne ?_ | refine' ev_op ?_ ?_ ?_ | exact ea_nil | refine' ea_cons ?_ ?_ | refine' et_test ?_ | refine' et_B ?_ | refine' et_not ?_ | refine' ev_notV ?_))

open PySem
/-! ### User.__eq__ -/
def EvS (te : TE) (σ : L2.St) (H : Hp) (xs : List Str) : Prop := ∀ H1, Ex H H1 → ∀ Q : VK, (∀ (ys : List Str) (p : Addr) H2, ys.Perm xs → sortedS ys = true → Ex H1 H2 → H2 p = some (.lst (ys.map V.str)) → Q (.ref p) H2) → te σ H1 Q
def GoodS (gs : List Str) : Prop := gs.length ≤ 60 ∧ ∀ s ∈ gs, PyData.strOk s = true
section
variable {σ : L2.St} {K : PySem.W.Frag} {H : Hp} {te ta tb : TE} {p : Addr} {xs ys : List Str}
theorem es_sorted (h : Ev te σ H (.ref p)) (hp : H p = some (.tup (xs.map V.str))) (hl : xs.length < 64) : EvS (tCB (KV.rSortedST K) (tCons te tNil)) σ H xs := fun H1 e Q q => h H1 e _ fun H2 e2 => ⟨p, xs, rfl, st_of ((e.trans e2) _ _ hp), hl, fun ys l p1 p2 hl => q ys l _ p1 p2 (e2.trans (Ex.new hl)) upd_same⟩
theorem ev_eqSS (ha : EvS ta σ H xs) (hb : EvS tb σ H ys) (o1 : ∀ s ∈ xs, PyData.strOk s = true) (o2 : ∀ s ∈ ys, PyData.strOk s = true) : Ev (tOp (rEqD K) ta tb) σ H (.bl (xs.isPerm ys)) := fun H1 e Q q =>
  ha H1 e _ fun as l H2 pa sa e2 ha2 => hb H2 (e.trans e2) _ fun bs m H3 pb sb e3 hb3 => by
    have z : xs.isPerm ys = decide (as = bs) := by
      rw [Bool.eq_iff_iff, List.isPerm_iff, decide_eq_true_iff]
      exact (KV.sorted_eq_iff sa pa sb pb).symm
    rw [z] at q
    exact KV.rv_eqLS (e3 _ _ ha2) hb3 (fun s hs => o1 s (pa.mem_iff.mp hs)) (fun s hs => o2 s (pb.mem_iff.mp hs)) H3 (Ex.refl _) Q fun H4 e4 => q H4 ((e2.trans e3).trans e4)
end
def eqU (C C2 : Addr) (nm nm2 : Str) (gs gs2 : List Str) : Bool := decide (C = C2) && (decide (nm = nm2) && gs.isPerm gs2)
def EqCase (K : PySem.W.Frag) (a : Ads) (H : Hp) (C : Addr) (nm : Str) (gs : List Str) (y : V) (r : Bool) : Prop :=
  (∃ c C2 nm2 gs2, y = .ref c ∧ IsU a C2 ∧ UserAt H c C2 nm2 gs2 ∧ GoodS gs2 ∧ r = eqU C C2 nm nm2 gs gs2) ∨ (r = false ∧ ∃ t ∈ (["str", "tuple"] : List String), TyE K H y t)
theorem EqCase.mono {K : PySem.W.Frag} {a : Ads} {H H' : Hp} {C : Addr} {nm : Str} {gs : List Str} {y : V} {r : Bool} (h : EqCase K a H C nm gs y r) (e : Ex H H') : EqCase K a H' C nm gs y r := by
  rcases h with ⟨c, C2, nm2, gs2, e1, e2, e3, e4, e5⟩ | ⟨h1, t, ht, ty⟩
  · exact .inl ⟨c, C2, nm2, gs2, e1, e2, e3.mono e, e4, e5⟩
  · exact .inr ⟨h1, t, ht, fun H2 e2 => ty H2 (e.trans e2)⟩
def spEqU (K : PySem.W.Frag) (a : Ads) : Sp := fun vs H Q _ => ∃ (b C : Addr) (nm : Str) (gs : List Str) (y : V) (r : Bool), vs = [.ref b, y] ∧ IsU a C ∧ UserAt H b C nm gs ∧ GoodS gs ∧ EqCase K a H C nm gs y r ∧ ∀ H', Ex H H' → Q (.bl r) H'
section
variable {P : Program} {w : World} {K : PySem.W.Frag} {mg : Str → Option Value} {base : Heap} {a : Ads}
theorem IsU.tyx {C : Addr} (h : IsU a C) (T : Txt P w K mg a) {H : Hp} {b : Addr} {nm : Str} {gs : List Str} (hu : UserAt H b C nm gs) : TyX K H (.ref b) (.ref C) := by
  obtain ⟨dx, t, h1, _⟩ := hu
  rcases h with rfl | rfl
  · exact .base (.ins h1 T.c_User T.ia_User T.in_ T.it_ T.im_User)
  · exact .base (.ins h1 T.c_Chief T.ia_Chief T.in_ T.it_ T.im_Chief)
theorem IsU.kitU {C : Addr} (h : IsU a C) (T : Txt P w K mg a) : PySem.W.kitOne K (.ref C) (.ref a.f_User) = some true := by
  rcases h with rfl | rfl
  · exact T.ki_User_User
  · exact T.ki_Chief_User
theorem IsU.kitC {C : Addr} (h : IsU a C) (T : Txt P w K mg a) : PySem.W.kitOne K (.ref C) (.ref a.f_Chief) = some (decide (C = a.f_Chief)) := by
  rcases h with rfl | rfl
  · rw [T.ki_User_Chief, decide_eq_false T.ne_User_Chief]
  · rw [T.ki_Chief_Chief, decide_eq_true rfl]
theorem IsU.same {C C2 : Addr} (h : IsU a C) (h2 : IsU a C2) (T : Txt P w K mg a) : decide (V.bl (decide (C = a.f_Chief)) = V.bl (decide (C2 = a.f_Chief))) = decide (C = C2) := by
  have n := T.ne_User_Chief
  rcases h with rfl | rfl <;> rcases h2 with rfl | rfl <;> simp [n, Ne.symm n]
theorem ok_User_eq (T : Txt P w K mg a) : FnOk P w K mg base CX0 1 a.f_UserD_eqD a.d_UserD_eqD ["self", "other"] (spEqU K a) := by
  refine T.fn_UserD_eqD.ok sc_UserD_eqD (fun vs H Q E h => ?_) (fun cdv A outer s H vs Q E hr h => ?_)
  · obtain ⟨_, _, _, _, _, _, rfl, _⟩ := h
    rfl
  · obtain ⟨b, C, nm, gs, y, r, rfl, isu, hu, good, case_, k⟩ := h
    refine ⟨_, (pss_one (ps_ret (pe_and (pe_callB call_isi (by rfl) T.b_isinstance PyProof.Rows.boot_isinstance (pa_cons (pv 1) (pa_cons (pe_glob (v := .ref a.f_User) rfl T.mg_User rfl) pa_nil))) (pe_and (pe_cmpR op_eq (pe_callB call_isi (by rfl) T.b_isinstance PyProof.Rows.boot_isinstance (pa_cons (pv 0) (pa_cons (pe_glob (v := .ref a.f_Chief) rfl T.mg_Chief rfl) pa_nil))) (pe_callB call_isi (by rfl) T.b_isinstance PyProof.Rows.boot_isinstance (pa_cons (pv 1) (pa_cons (pe_glob (v := .ref a.f_Chief) rfl T.mg_Chief rfl) pa_nil))) (nomark _)) (pe_and (pe_cmpR op_eq (pe_fld (pv 0) rfl) (pe_fld (pv 1) rfl) (nomark _)) (pe_one (pe_cmpR (op_eqD hr.units) (pe_callB KV.cr_sortedST (by rfl) T.b_sorted (by decide +kernel) (pa_cons (pe_fld (pv 0) rfl) pa_nil)) (pe_callB KV.cr_sortedST (by rfl) T.b_sorted (by decide +kernel) (pa_cons (pe_fld (pv 1) rfl) pa_nil)) (nomark _)))))))), ?_⟩
    obtain ⟨dx, t, hb, ht⟩ := id hu
    obtain ⟨cC, nN, nG⟩ := isu.cls T
    rcases case_ with ⟨c, C2, nm2, gs2, rfl, isu2, hu2, good2, rfl⟩ | ⟨rfl, t2, ht2, ty⟩
    · obtain ⟨dy, u, hc, hu'⟩ := id hu2
      obtain ⟨cC2, nN2, nG2⟩ := isu2.cls T
      refine s_ret (v := .bl (eqU C C2 nm nm2 gs gs2)) (ev_is (ev_andV (a := true) (ev_isi (ea_cons (ev_var rfl) (ea_cons ev_c ea_nil)) (.own _) (fun H' e' => isu2.tyx T (hu2.mono e')) (isu2.kitU T)) fun _ => ev_andV (a := decide (C = C2)) (ev_is (ev_op (ev_isi (ea_cons (ev_var rfl) (ea_cons ev_c ea_nil)) (.own _) (fun H' e' => isu.tyx T (hu.mono e')) (isu.kitC T)) (ev_isi (ea_cons (ev_var rfl) (ea_cons ev_c ea_nil)) (.own _) (fun H' e' => isu2.tyx T (hu2.mono e')) (isu2.kitC T)) (rv_eq rfl)) (congrArg V.bl (isu.same isu2 T))) fun _ => ev_andV (a := decide (nm = nm2)) (ev_is (ev_op (ev_fld (ev_var rfl) hb cC nN (fs_name nm t)) (ev_fld (ev_var rfl) hc cC2 nN2 (fs_name nm2 u)) (rv_eq rfl)) (congrArg V.bl (decide_eq_decide.mpr ⟨fun z => by injection z, fun z => by rw [z]⟩))) fun _ => ev_eqSS (K := K) (es_sorted (K := K) (ev_fld (ev_var rfl) hb cC nG (fs_groups nm t)) ht (Nat.lt_of_le_of_lt good.1 (by decide))) (es_sorted (K := K) (ev_fld (ev_var rfl) hc cC2 nG2 (fs_groups nm2 u)) hu' (Nat.lt_of_le_of_lt good2.1 (by decide))) good.2 good2.2) rfl) fun H1 e1 => k H1 e1
    · have no : PySem.W.kitOne K (.type t2) (.ref a.f_User) = some false := by
        simp only [List.mem_cons, List.not_mem_nil, or_false] at ht2
        rcases ht2 with rfl | rfl
        · exact T.nt_User_str
        · exact T.nt_User_tuple
      exact s_ret (v := .bl false) (ev_is (ev_andV (a := false) (b := true) (ev_isi (ea_cons (ev_var rfl) (ea_cons ev_c ea_nil)) (.own _) ty no) fun z => nomatch z) rfl) fun H1 e1 => k H1 e1
end
end KI
set_option Elab.async false
set_option linter.all false
set_option maxRecDepth 100000
set_option maxHeartbeats 4000000
namespace KI
open PySem PySem.Spec PyProof.Rows L2 Evl KF
local macro_rules | `(tactic| walk_at "ev") => `(tactic| repeat' (first | exact ev_c | exact ev_var rfl | exact rv_I0 | refine' rv_I ?_ | refine' rv_eq ?_ | refine' rv_ne ?_ | refine' ev_op ?_ ?_ ?_ | exact ea_nil | refine' ea_cons ?_ ?_ | refine' et_test ?_ | refine' et_B ?_ | refine' et_not ?_ | refine' ev_notV ?_))

open PySem
/-! ### the pen: a list of a list of ints, how far it is, what rests -/
def PenAt (H : Hp) (p : Addr) (n : Nat) : Prop := ∃ (l : Addr) (ns : List Int) (at_ : Nat) (rest : Int), H p = some (.lst [.ref l, .int at_, .int rest]) ∧ H l = some (.lst (ns.map V.int)) ∧ l ≠ p ∧ at_ ≤ n ∧ 0 ≤ rest ∧ ns.length ≤ 63
theorem PenAt.keep {H H' : Hp} {p : Addr} {n : Nat} (h : PenAt H p n) (e : Ex H H') : PenAt H' p n := by
  obtain ⟨l, ns, at_, rest, h1, h2, h3, h4, h5, h6⟩ := h
  exact ⟨l, ns, at_, rest, e _ _ h1, e _ _ h2, h3, h4, h5, h6⟩
theorem PenAt.ex {H : Hp} {p : Addr} {n : Nat} (h : PenAt H p n) : ∃ o, H p = some o := by
  obtain ⟨l, ns, at_, rest, h1, _⟩ := h
  exact ⟨_, h1⟩
/-- all but p stay, and p's first item does -/
structure ExP (p : Addr) (H H' : Hp) : Prop where
  ex : ExB p H H'
  fix : ∀ l x y, H p = some (.lst [.ref l, x, y]) → ∃ x' y', H' p = some (.lst [.ref l, x', y'])
theorem ExP.trans {p : Addr} {H H1 H2 : Hp} (a : ExP p H H1) (b : ExP p H1 H2) : ExP p H H2 := ⟨a.ex.trans b.ex, fun l x y h => by
  obtain ⟨x1, y1, h1⟩ := a.fix l x y h
  exact b.fix l x1 y1 h1⟩
theorem ExP.of {p : Addr} {H H' : Hp} (e : Ex H H') : ExP p H H' := ⟨ExB.of e, fun l x y h => ⟨x, y, e _ _ h⟩⟩
def spPen (K : PySem.W.Frag) : Sp := fun vs H Q _ => ∃ (s : Addr) (ns : List Int), vs = [.ref s] ∧ SqL K H s (ns.map V.int) ∧ ns.length ≤ 63 ∧ ∀ p H', H p = none → Ex H H' → PenAt H' p 0 → Q (.ref p) H'
/-- a limit of draws -/
def LimM (m : Nat) : Prop := ((m : Nat) : Int).natAbs < 2 ^ 200
def spDraw : Sp := fun vs H Q _ => ∃ (p : Addr) (n m : Nat), vs = [.ref p, .int m] ∧ PenAt H p n ∧ n < 100000 ∧ 0 < m ∧ LimM m ∧ ∀ (d : Nat) H', d < m → ExP p H H' → PenAt H' p (n + 1) → Q (.int d) H'
def spPick : Sp := fun vs H Q _ => ∃ (p : Addr) (v : V) (n : Nat), vs = [.ref p, v] ∧ PenAt H p n ∧ n < 100000 ∧
  ((∃ (s : Addr) (xs : List V), v = .ref s ∧ H s = some (.lst xs) ∧ s ≠ p ∧ 0 < xs.length ∧ xs.length ≤ 1000 ∧ ∀ x H', x ∈ xs → ExP p H H' → PenAt H' p (n + 1) → Q x H') ∨
   (∃ z : Str, v = .str z ∧ 0 < z.length ∧ z.length ≤ 1000 ∧ ∀ c H', c ∈ z.cps.toList → ExP p H H' → PenAt H' p (n + 1) → Q (.str ⟨#[c]⟩) H'))
theorem lim_small {m : Nat} (h : m ≤ 1000) : LimM m := by
  unfold LimM
  rw [Int.natAbs_natCast]
  exact Nat.lt_of_le_of_lt h (by decide)
section
variable {P : Program} {w : World} {K : PySem.W.Frag} {mg : Str → Option Value} {base : Heap} {a : Ads}
theorem ok_pen (T : Txt P w K mg a) : FnOk P w K mg base CX0 1 a.f__law_pen a.d__law_pen ["_law_script"] (spPen K) := by
  refine T.fn__law_pen.ok sc__law_pen (fun vs H Q E h => ?_) (fun cdv A outer s H vs Q E hr h => ?_)
  · obtain ⟨_, _, rfl, _⟩ := h
    rfl
  · obtain ⟨sc, ns, rfl, hs, hl, k⟩ := h
    refine ⟨_, (pss_one (ps_ret (pe_lst (pa_cons (pe_callTy call_list_of (by rfl) T.b_list (by decide +kernel) (pa_cons (pe_slice sl_list (pv 0) po_none (po_some pe_int)) pa_nil)) (pa_cons pe_int (pa_cons pe_int pa_nil)))))), ?_⟩
    obtain ⟨ms, e, hm⟩ := cut_ints ns none (some 63)
    refine s_retPen (el_is (el_listN (K := K) (el_sliceL (K := K) (ev_var rfl) eo_none (eo_some ev_c) hs)) e) fun l p H1 hl1 e1 h1 hp => ?_
    have lp : l ≠ p := fun z => by rw [z, hp] at h1; cases h1
    exact k p _ (fresh_back e1 hp) (e1.trans (Ex.new hp)) ⟨l, ms, 0, 0, upd_same, by rw [upd_ne lp]; exact h1, lp, Nat.le_refl 0, Int.le_refl 0, by omega⟩
theorem ok_draw (T : Txt P w K mg a) : FnOk P w K mg base CX0 1 a.f__law_draw a.d__law_draw ["_law_pen_here", "_law_many"] spDraw := by
  refine T.fn__law_draw.ok sc__law_draw (fun vs H Q E h => ?_) (fun cdv A outer s H vs Q E hr h => ?_)
  · obtain ⟨_, _, _, rfl, _⟩ := h
    rfl
  · obtain ⟨p, n, m, rfl, ⟨l, ns, at_, rest, hp, hl, lp, hat, hrest, hlen⟩, hn, hm0, hm, k⟩ := h
    refine ⟨_, (pss_cons (ps_if (pt_cmpR op_gt (pe_ix ix_list (pv 0) pe_int (fun _ _ => rfl)) pe_int (nomark _)) (pss_cons (ps_set (i := 2) sc__law_draw.nd rfl (Or.inl rfl) (pe_op op_mod (pe_callTy call_int1 (by rfl) T.b_int (by decide +kernel) (pa_cons (pe_ix ix_list (pv 0) pe_int (fun _ _ => rfl)) pa_nil)) (pv 1)))
    (pss_cons (ps_asg (pe_op op_fdivW (pe_callTy call_int1 (by rfl) T.b_int (by decide +kernel) (pa_cons (pe_ix ix_list (pv 0) pe_int (fun _ _ => rfl)) pa_nil)) (pv 1)) (pg_sub (pv 0) pe_int set_list))
    (pss_one (ps_ret (pv 2))))) pss_nil)
    (pss_cons (ps_set (i := 3) sc__law_draw.nd rfl (Or.inl rfl) (pe_ix ix_list (pv 0) pe_int (fun _ _ => rfl)))
    (pss_cons (ps_asg (pe_op op_add (pv 3) pe_int) (pg_sub (pv 0) pe_int set_list))
    (pss_cons (ps_set (i := 4) sc__law_draw.nd rfl (Or.inl rfl) (pe_op op_add (pe_op op_mul pe_int (pv 3)) pe_int))
    (pss_cons (ps_if (pt_cmpR (op_neD hr.units) (pe_ix ix_list (pv 0) pe_int (fun _ _ => rfl)) (pe_lst pa_nil) (nomark _)) (pss_one (ps_set (i := 4) sc__law_draw.nd rfl (Or.inl rfl) (pe_ix ix_list (pe_ix ix_list (pv 0) pe_int (fun _ _ => rfl)) (pe_op op_mod (pe_callTy call_int1 (by rfl) T.b_int (by decide +kernel) (pa_cons (pv 3) pa_nil)) (pe_callB call_len_seq (by rfl) T.b_len PySem.boot_len (pa_cons (pe_ix ix_list (pv 0) pe_int (fun _ _ => rfl)) pa_nil))) (fun _ _ => rfl)))) pss_nil)
    (pss_cons (ps_if (PW.pt (pw_and (pt_cmpR op_lt (pv 3) (pe_callB call_len_seq (by rfl) T.b_len PySem.boot_len (pa_cons (pe_ix ix_list (pv 0) pe_int (fun _ _ => rfl)) pa_nil)) (nomark _)) (pw_and1 (pt_cmpR op_ge (pe_callB call_abs (by rfl) T.b_abs (by decide +kernel) (pa_cons (pv 4) pa_nil)) (pe_op op_pow pe_int pe_int) (nomark _))))) (pss_cons (ps_set (i := 5) sc__law_draw.nd rfl (Or.inl rfl) (pe_op op_add (pe_op op_mul pe_int (pe_op op_sub (pe_callB call_abs (by rfl) T.b_abs (by decide +kernel) (pa_cons (pv 4) pa_nil)) (pe_op op_pow pe_int pe_int))) (pe_callTy call_int1 (by rfl) T.b_int (by decide +kernel) (pa_cons (pe_cmpR op_lt (pv 4) pe_int (nomark _)) pa_nil))))
    (pss_cons (ps_asg (pe_op op_fdivW (pe_callTy call_int1 (by rfl) T.b_int (by decide +kernel) (pa_cons (pv 5) pa_nil)) (pv 1)) (pg_sub (pv 0) pe_int set_list))
    (pss_one (ps_ret (pe_op op_mod (pe_callTy call_int1 (by rfl) T.b_int (by decide +kernel) (pa_cons (pv 5) pa_nil)) (pv 1)))))) pss_nil)
    (pss_cons (ps_set (i := 6) sc__law_draw.nd rfl (Or.inl rfl) (pe_op op_mod (pe_callTy call_int1 (by rfl) T.b_int (by decide +kernel) (pa_cons (pe_op op_pow (pe_op op_add (pe_op op_add (pe_op op_mod (pe_callTy call_int1 (by rfl) T.b_int (by decide +kernel) (pa_cons (pv 4) pa_nil)) pe_int) (pe_op op_mul pe_int (pv 3))) pe_int) pe_int) pa_nil)) pe_int))
    (pss_cons (ps_set (i := 6) sc__law_draw.nd rfl (Or.inl rfl) (pe_op op_mod (pe_callTy call_int1 (by rfl) T.b_int (by decide +kernel) (pa_cons (pe_op op_pow (pe_op op_add (pe_op op_add (pe_op op_mul (pv 6) (pe_op op_add (pe_op op_mul pe_int (pv 3)) pe_int)) (pe_op op_mul (pe_op op_mul pe_int (pv 3)) (pv 3))) pe_int) pe_int) pa_nil)) pe_int))
    (pss_one (ps_ret (pe_op op_mod (pe_callTy call_int1 (by rfl) T.b_int (by decide +kernel) (pa_cons (pe_op op_fdiv (pv 6) pe_int) pa_nil)) (pv 1)))))))))))), ?_⟩
    have fin : ∀ (H1 H4 : Hp) (x r : Int) (b : Nat), ExB p H H1 → b ≤ n + 1 → 0 ≤ r → Ex (upd H1 p (.lst [.ref l, .int b, .int r])) H4 → 0 ≤ x → x < m → Q (.int x) H4 := fun H1 H4 x r b e1 hb hr0 e4 h0 h1 => by
      have ex : x = (x.toNat : Nat) := by omega
      rw [ex]
      refine k x.toNat _ (by omega) ⟨fun c o hc ne => e4 _ _ (by rw [upd_ne ne]; exact e1 _ _ hc ne), fun l' x' y' q => by
        rw [hp] at q
        cases q
        exact ⟨_, _, e4 _ _ upd_same⟩⟩ ⟨l, ns, b, r, e4 _ _ upd_same, e4 _ _ (by rw [upd_ne lp]; exact e1 _ _ hl lp), lp, hb, hr0, hlen⟩
    have hm1 : (0 : Int) < (m : Int) := by omega
    -- if pen[2] > 0
    refine q_when (b := decide (0 < rest)) (et_test (ev_op (ev_op (ev_var rfl) ev_c (rv_ixL (sq_of hp) rfl)) ev_c rv_I0)) (fun hb H1 e1 => ?_) (fun hb H1 e1 => ?_)
    · have hp1 := e1 _ _ hp
      refine q_asg (v := .int (rest % m)) (ev_op (ev_int (ev_op (ev_var rfl) ev_c (rv_ixL (sq_of hp1) rfl))) (ev_var rfl) (rv_I (by omega))) fun H2 e2 => ?_
      have hp2 := e2 _ _ hp1
      refine q_setL (j := 2) hp2 (v := .int (rest / m)) (ev_op (ev_int (ev_op (ev_var rfl) ev_c (rv_ixL (sq_of hp2) rfl))) (ev_var rfl) (rv_I (wide_div (b := 200) hm1 hm (by decide) (by decide)))) (ev_var rfl) ev_c (by show 2 < 3; decide) fun H3 e3 => ?_
      refine s_ret (v := .int (rest % m)) (ev_var rfl) fun H4 e4 => ?_
      exact fin H3 H4 _ _ _ (ExB.of ((e1.trans e2).trans e3)) (Nat.le_succ_of_le hat) (Int.ediv_nonneg hrest (by omega)) e4 (Int.emod_nonneg _ (by omega)) (Int.emod_lt_of_pos _ hm1)
    · have hr0 : rest = 0 := by have := of_decide_eq_false hb; omega
      have hp1 := e1 _ _ hp
      refine q_asg (v := .int at_) (ev_op (ev_var rfl) ev_c (rv_ixL (sq_of hp1) rfl)) fun H2 e2 => ?_
      have hp2 := e2 _ _ hp1
      refine q_setL (j := 1) hp2 (v := .int (at_ + 1)) (by walk_at "ev") (ev_var rfl) ev_c (by show 1 < 3; decide) fun H3 e3 => ?_
      have e03 : Ex H H3 := (e1.trans e2).trans e3
      have hp3 : (upd H3 p (.lst [.ref l, .int (at_ + 1), .int rest])) p = some (.lst [.ref l, .int (at_ + 1), .int rest]) := upd_same
      have hl3 : (upd H3 p (.lst [.ref l, .int (at_ + 1), .int rest])) l = some (.lst (ns.map V.int)) := by rw [upd_ne lp]; exact e03 _ _ hl
      have b03 : ExB p H (upd H3 p (.lst [.ref l, .int (at_ + 1), .int rest])) := fun c o hc ne => by rw [upd_ne ne]; exact e03 _ _ hc
      generalize eK : (upd H3 p (.lst [.ref l, .int (at_ + 1), .int rest])) = K3 at hp3 hl3 b03
      show tSeq _ _ _ _ (upd H3 p (.lst [.ref l, .int (at_ + 1), .int rest]))
      rw [eK]
      -- cell
      refine q_asg (v := .int (51373 * at_ + 2029)) (by walk_at "ev"; exact .inl ⟨by decide, by decide⟩) fun H4 e4 => ?_
      have hp4 := e4 _ _ hp3
      have hl4 := e4 _ _ hl3
      obtain ⟨cell, hc1, hc2⟩ : ∃ cell : Int, (ns ≠ [] → atI (ns.map V.int) ((at_ : Int) % ((ns.map V.int).length : Nat)) = some (.int cell)) ∧ (ns = [] → cell = 51373 * at_ + 2029) := by
        by_cases hns : ns = []
        · exact ⟨51373 * at_ + 2029, fun z => absurd hns z, fun _ => rfl⟩
        · have hpos : 0 < ns.length := List.length_pos_iff.mpr hns
          have hj : at_ % ns.length < ns.length := Nat.mod_lt _ hpos
          refine ⟨ns[at_ % ns.length], fun _ => ?_, fun z => absurd z hns⟩
          rw [List.length_map, show ((at_ : Int) % (ns.length : Nat)) = ((at_ % ns.length : Nat) : Int) by omega]
          exact atI_nat (by simp [hj])
      have hlenZ : ns ≠ [] → (0 : Int) < ((ns.map V.int).length : Nat) := fun hns => by
        have hpos : 0 < ns.length := List.length_pos_iff.mpr hns
        rw [List.length_map]; omega
      refine q_ifAsg (b := !PyData.eqv (.list (ns.map PyData.int)) (.list [])) (v := .int cell) (et_test (ev_opL (ev_op (ev_var rfl) ev_c (rv_ixL (sq_of hp4) rfl)) (el_lst ea_nil (by decide)) fun q H5 hq e5 => rv_neE (e5 _ _ hl4) hq)) (fun hb => ?_) (fun hb => ?_) fun H5 e5 => ?_
      · have hns : ns ≠ [] := fun z => by rw [eqv_nil, z] at hb; cases hb
        refine ev_op (ev_op (ev_var rfl) ev_c (rv_ixL (sq_of hp4) rfl)) (ev_op (ev_int (ev_var rfl)) (ev_lenS (ev_op (ev_var rfl) ev_c (rv_ixL (sq_of hp4) rfl)) (sq_of hl4)) (rv_I (hlenZ hns))) (rv_ixL (sq_of hl4) (hc1 hns))
      · have hns : ns = [] := by
          rw [eqv_nil] at hb
          simpa using hb
        rw [hc2 hns]
        rfl
      have hp5 := e5 _ _ hp4
      have hl5 := e5 _ _ hl4
      -- if at < len(pen[0]) and abs(cell) >= 10 ** 18
      refine q_when (b := decide ((at_ : Int) < ((ns.map V.int).length : Nat)) && decide ((10 : Int) ^ (18 : Int).toNat ≤ (if cell < 0 then -cell else cell))) (et_and (et_test (ev_op (ev_var rfl) (ev_lenS (ev_op (ev_var rfl) ev_c (rv_ixL (sq_of hp5) rfl)) (sq_of hl5)) rv_I0)) fun _ => et_test (ev_op (ev_abs (ev_var rfl)) (ev_op ev_c ev_c (rv_I ⟨by decide, by decide, by decide⟩)) rv_I0)) (fun hb H6 e6 => ?_) (fun hb H6 e6 => ?_)
      · have hge := of_decide_eq_true (Bool.and_eq_true_iff.mp hb).2
        have hp6 := e6 _ _ hp5
        refine q_asg (v := .int (2 * ((if cell < 0 then -cell else cell) - 10 ^ (18 : Int).toNat) + (if decide (cell < 0) = true then 1 else 0))) (ev_op (ev_op ev_c (ev_op (ev_abs (ev_var rfl)) (ev_op ev_c ev_c (rv_I ⟨by decide, by decide, by decide⟩)) rv_I0) (rv_I (.inl ⟨by decide, by decide⟩))) (ev_intB (ev_op (ev_var rfl) ev_c rv_I0)) rv_I0) fun H7 e7 => ?_
        have hg0 : 0 ≤ 2 * ((if cell < 0 then -cell else cell) - 10 ^ (18 : Int).toNat) + (if decide (cell < 0) = true then 1 else 0) := by
          have : (0 : Int) ≤ (if decide (cell < 0) = true then 1 else 0) := by split <;> decide
          omega
        generalize 2 * ((if cell < 0 then -cell else cell) - 10 ^ (18 : Int).toNat) + (if decide (cell < 0) = true then 1 else 0) = great at hg0
        refine q_setL (j := 2) (e7 _ _ hp6) (v := .int (great / m)) (ev_op (ev_int (ev_var rfl)) (ev_var rfl) (rv_I (wide_div (b := 200) hm1 hm (by decide) (by decide)))) (ev_var rfl) ev_c (by show 2 < 3; decide) fun H8 e8 => ?_
        refine s_ret (v := .int (great % m)) (ev_op (ev_int (ev_var rfl)) (ev_var rfl) (rv_I hm1)) fun H9 e9 => ?_
        exact fin H8 H9 _ (great / m) (at_ + 1) (b03.trans (ExB.of ((((e4.trans e5).trans e6).trans e7).trans e8))) (by omega) (Int.ediv_nonneg hg0 (by omega)) e9 (Int.emod_nonneg _ (by omega)) (Int.emod_lt_of_pos _ hm1)
      · have hat5 : (at_ : Int) ≤ 100000 := by omega
        have hu0 : 0 ≤ cell % 2147483587 + 51365 * at_ + 384 ∧ cell % 2147483587 + 51365 * at_ + 384 < 18446744073709551616 := by
          have h1 := Int.emod_nonneg cell (show (2147483587 : Int) ≠ 0 by decide)
          have h2 := Int.emod_lt_of_pos cell (show (0 : Int) < 2147483587 by decide)
          omega
        refine q_asg (v := .int ((cell % 2147483587 + 51365 * at_ + 384) ^ (5 : Int).toNat % 2147483629)) (ev_op (ev_int (ev_op (ev_op (ev_op (ev_op (ev_int (ev_var rfl)) ev_c (rv_I (by decide))) (ev_op ev_c (ev_var rfl) (rv_I (.inl ⟨by decide, by decide⟩))) rv_I0) ev_c rv_I0) ev_c (rv_I ⟨by decide, by decide, by omega⟩))) ev_c (rv_I (by decide))) fun H7 e7 => ?_
        have hx0 := Int.emod_nonneg ((cell % 2147483587 + 51365 * at_ + 384) ^ (5 : Int).toNat) (show (2147483629 : Int) ≠ 0 by decide)
        have hx1 := Int.emod_lt_of_pos ((cell % 2147483587 + 51365 * at_ + 384) ^ (5 : Int).toNat) (show (0 : Int) < 2147483629 by decide)
        generalize (cell % 2147483587 + 51365 * at_ + 384) ^ (5 : Int).toNat % 2147483629 = mx at hx0 hx1
        obtain ⟨b1, b2⟩ := mul_bd hx0 (Int.le_of_lt hx1) (y := 2 * at_ + 65) (B := 300000) (by omega) (by omega)
        obtain ⟨b3, b4⟩ := mul_bd (x := 60901 * at_) (A := 8000000000) (y := at_) (B := 100000) (by omega) (by omega) (by omega) hat5
        refine q_asg (v := .int ((mx * (2 * at_ + 65) + 60901 * at_ * at_ + 17) ^ (3 : Int).toNat % 2147483647)) (ev_op (ev_int (ev_op (ev_op (ev_op (ev_op (ev_var rfl) (ev_op (ev_op ev_c (ev_var rfl) (rv_I (.inl ⟨by decide, by decide⟩))) ev_c rv_I0) (rv_I (.inl ⟨by omega, by omega⟩))) (ev_op (ev_op ev_c (ev_var rfl) (rv_I (.inl ⟨by decide, by decide⟩))) (ev_var rfl) (rv_I (.inl ⟨by omega, by omega⟩))) rv_I0) ev_c rv_I0) ev_c (rv_I ⟨by decide, by decide, by omega⟩))) ev_c (rv_I (by decide))) fun H8 e8 => ?_
        refine s_ret (v := .int (((mx * (2 * at_ + 65) + 60901 * at_ * at_ + 17) ^ (3 : Int).toNat % 2147483647) / 32 % m)) (ev_op (ev_int (ev_op (ev_var rfl) ev_c (rv_I ⟨by decide, by decide⟩))) (ev_var rfl) (rv_I hm1)) fun H9 e9 => ?_
        refine fin H3 H9 _ rest (at_ + 1) (ExB.of e03) (by omega) hrest ?_ (Int.emod_nonneg _ (by omega)) (Int.emod_lt_of_pos _ hm1)
        intro c o hc
        exact e9 _ _ (e8 _ _ (e7 _ _ (e6 _ _ (e5 _ _ (e4 _ _ (by rw [← eK]; exact hc))))))
theorem ok_pick (T : Txt P w K mg a) : FnOk P w K mg base CX0 2 a.f__law_pick a.d__law_pick ["_law_pen_here", "_law_some"] spPick := by
  have G__law_draw : FnOk P w K mg base CX0 1 _ _ _ _ := ok_draw T
  refine T.fn__law_pick.ok sc__law_pick (fun vs H Q E h => ?_) (fun cdv A outer s H vs Q E hr h => ?_)
  · obtain ⟨_, _, _, rfl, _⟩ := h
    rfl
  · obtain ⟨p, v, n, rfl, hp, hn, h⟩ := h
    have hrc : Room 1 _ := hr
    refine ⟨_, (pss_one (ps_ret (pe_ix ix_seq (pv 1) (pe_call G__law_draw hrc rfl T.mg__law_draw T.fn__law_draw.kp (bd__law_draw T) .nil pass0 (pa_cons (pv 0) (pa_cons (pe_callB call_len (by rfl) T.b_len PySem.boot_len (pa_cons (pv 1) pa_nil)) pa_nil))) (fun _ _ => rfl)))), ?_⟩
    rcases h with ⟨s, xs, rfl, hs, sp, h0, h1, k⟩ | ⟨z, rfl, h0, h1, k⟩
    · refine ⟨.ref s, rfl, .ref p, rfl, .ref s, rfl, .ref s, xs.length, rfl, .inl ⟨xs, sq_of hs, rfl⟩, p, n, xs.length, rfl, hp, hn, h0, lim_small h1, fun d H1 hd e1 hp1 => ?_⟩
      exact .inl ⟨s, xs, d, xs[d], rfl, rfl, sq_of (e1.ex _ _ hs sp), atI_nat (by simp [hd]), k _ _ (List.getElem_mem hd) e1 hp1⟩
    · have hz : z.length ≤ sizeLine := sz_of (by omega)
      have hl : z.cps.toList.length = z.length := Array.length_toList
      refine ⟨.str z, rfl, .ref p, rfl, .str z, rfl, .str z, z.length, rfl, ⟨hz, rfl⟩, p, n, z.length, rfl, hp, hn, h0, lim_small h1, fun d H1 hd e1 hp1 => ?_⟩
      have hd2 : d < z.cps.toList.length := by omega
      exact .inr (.inr ⟨z, d, z.cps.toList[d], rfl, rfl, hz, atI_nat (by simp [hd2]), k _ _ (List.getElem_mem hd2) e1 hp1⟩)
end
/-- the pen, its cells at l -/
def PenL (H : Hp) (p l : Addr) (n : Nat) : Prop := ∃ (ns : List Int) (at_ : Nat) (rest : Int), H p = some (.lst [.ref l, .int at_, .int rest]) ∧ H l = some (.lst (ns.map V.int)) ∧ l ≠ p ∧ at_ ≤ n ∧ 0 ≤ rest ∧ ns.length ≤ 63
section
variable {H H' : Hp} {p l d : Addr} {n m : Nat}
theorem PenL.pen (h : PenL H p l n) : PenAt H p n := let ⟨ns, a, r, q⟩ := h; ⟨l, ns, a, r, q⟩
theorem PenAt.fixL (h : PenAt H p n) : ∃ l, PenL H p l n := let ⟨l, ns, a, r, q⟩ := h; ⟨l, ns, a, r, q⟩
theorem PenL.keep (h : PenL H p l n) (e : Ex H H') : PenL H' p l n := let ⟨ns, a, r, h1, h2, q⟩ := h; ⟨ns, a, r, e _ _ h1, e _ _ h2, q⟩
theorem PenL.upd {o : HO} (h : PenL H p l n) (n1 : p ≠ d) (n2 : l ≠ d) : PenL (upd H d o) p l n := let ⟨ns, a, r, h1, h2, q⟩ := h; ⟨ns, a, r, by rw [upd_ne n1]; exact h1, by rw [upd_ne n2]; exact h2, q⟩
theorem PenL.ne (h : PenL H p l n) (z : H d = none) : p ≠ d ∧ l ≠ d := let ⟨_, _, _, h1, h2, _⟩ := h; ⟨ne_of_none h1 z, ne_of_none h2 z⟩
theorem PenL.next (h : PenL H p l n) (b : PenAt H' p m) (c : ExP p H H') : PenL H' p l m := by
  obtain ⟨ns, a, r, h1, _⟩ := h
  obtain ⟨x', y', e⟩ := c.fix l _ _ h1
  obtain ⟨l2, ns2, a2, r2, f1, q⟩ := b
  rw [f1] at e
  cases e
  exact ⟨ns2, a2, r2, f1, q⟩
theorem PenL.more (h : PenL H p l n) (k : n ≤ m) : PenL H p l m := let ⟨ns, a, r, h1, h2, h3, h4, h5⟩ := h; ⟨ns, a, r, h1, h2, h3, Nat.le_trans h4 k, h5⟩
theorem PenAt.ne_tup (h : PenAt H p n) {q : Addr} {xs : List V} (hq : H q = some (.tup xs)) : q ≠ p := let ⟨_, _, _, _, h1, _⟩ := h; ne_of hq h1 fun z => nomatch z
theorem PenAt.ne_new (h : PenAt H p n) {q : Addr} (hq : H q = none) : q ≠ p := let ⟨_, _, _, _, h1, _⟩ := h; (ne_of_none h1 hq).symm
end

theorem PenAt.more {H : Hp} {p : Addr} {n m : Nat} (h : PenAt H p n) (k : n ≤ m) : PenAt H p m := let ⟨l, ns, a, r, h1, h2, h3, h4, h5⟩ := h; ⟨l, ns, a, r, h1, h2, h3, Nat.le_trans h4 k, h5⟩
section
variable {K : PySem.W.Frag} {σ : L2.St} {H : Hp} {t1 t2 ta tb te : TE} {D : Ends} {tz : TS} {i j n : Nat} {p lc : Addr} {E : XK} {Q : VK} {x : V} {r : R2}
theorem draw_r (m : Nat) (hi : σ[i]? = some (some (.ref p))) (hm : Ev te σ H (.int (m : Nat))) (pen : PenL H p lc n) (hn : n < 100000) (h0 : 0 < m) (hl : m ≤ 1000) (k : ∀ d H', d < m → ExP p H H' → PenL H' p lc (n + 1) → Q (.int (d : Nat)) H') : tCall spDraw [] E (tCons (tVar i) (tCons te tNil)) σ H Q :=
  ⟨.ref p, hi, hm H (Ex.refl H) _ fun H1 e1 => ⟨p, n, m, rfl, (pen.keep e1).pen, hn, h0, lim_small hl, fun d H' hd e b => k d H' hd ((ExP.of e1).trans e) ((pen.keep e1).next b e)⟩⟩
theorem pick_raw (hi : σ[i]? = some (some (.ref p))) (h : te σ H fun v H1 => spPick [.ref p, v] H1 Q E) : tCall spPick [] E (tCons (tVar i) (tCons te tNil)) σ H Q := ⟨.ref p, hi, h⟩
/-- a pick out of a list -/
theorem pk_list {s : Addr} {xs : List V} (pen : PenL H p lc n) (hn : n < 100000) (hs : H s = some (.lst xs)) (sp : s ≠ p) (h0 : 0 < xs.length) (h1 : xs.length ≤ 1000) (k : ∀ x H', x ∈ xs → ExP p H H' → PenL H' p lc (n + 1) → Q x H') : spPick [.ref p, .ref s] H Q E :=
  ⟨p, _, n, rfl, pen.pen, hn, .inl ⟨s, xs, rfl, hs, sp, h0, h1, fun x H' hx e b => k x H' hx e (pen.next b e)⟩⟩
theorem pk_str {z : Str} (pen : PenL H p lc n) (hn : n < 100000) (h0 : 0 < z.length) (h1 : z.length ≤ 1000) (k : ∀ c H', c ∈ z.cps.toList → ExP p H H' → PenL H' p lc (n + 1) → Q (.str ⟨#[c]⟩) H') : spPick [.ref p, .str z] H Q E :=
  ⟨p, _, n, rfl, pen.pen, hn, .inr ⟨z, rfl, h0, h1, fun x H' hx e b => k x H' hx e (pen.next b e)⟩⟩
theorem ev_raw (h : Ev te σ H x) (k : ∀ H1, Ex H H1 → Q x H1) : te σ H Q := h H (Ex.refl H) Q k
theorem el_raw {xs : List V} (h : EvL te σ H xs) (k : ∀ l H1, H l = none → Ex H H1 → H1 l = some (.lst xs) → Q (.ref l) H1) : te σ H Q := h H (Ex.refl H) Q k
theorem PenL.neL {l : Addr} {xs : List V} (pen : PenL H p lc n) (hl : H l = some (.lst xs)) (ne : ∀ u v w, xs ≠ [u, v, w] ∨ (∀ q, u ≠ .ref q)) : l ≠ p := by
  obtain ⟨ns, at_, rest, h1, _⟩ := pen
  intro z
  rw [z, h1] at hl
  have e := Option.some.inj hl
  injection e with e
  rcases ne (.ref lc) (.int at_) (.int rest) with h | h
  · exact h e.symm
  · exact h lc rfl
end
/-- append, the new item raw -/
theorem s_app1 {K : PySem.W.Frag} {σ : L2.St} {H : Hp} {te : TE} {D : Ends} {j : Nat} {l : Addr} {ys : List V} (hj : σ[j]? = some (some (.ref l))) (hl : H l = some (.lst ys)) (h : te σ H fun v H2 => ∃ l' xs y, V.ref l = .ref l' ∧ [v] = [y] ∧ H2 l' = some (.lst xs) ∧ xs.length < sizeLine ∧ D.nx σ (upd H2 l' (.lst (xs ++ [y])))) : tDrop (tBM K "list" rAppend (tVar j) (tCons te tNil)) D σ H :=
  ⟨.ref l, hj, Or.inl ⟨rfl, ys, sq_of hl⟩, h⟩
theorem q_app1 {K : PySem.W.Frag} {σ : L2.St} {H : Hp} {te : TE} {D : Ends} {tz : TS} {j : Nat} {l : Addr} {ys : List V} (hj : σ[j]? = some (some (.ref l))) (hl : H l = some (.lst ys)) (h : te σ H fun v H2 => ∃ l' xs y, V.ref l = .ref l' ∧ [v] = [y] ∧ H2 l' = some (.lst xs) ∧ xs.length < sizeLine ∧ tz D σ (upd H2 l' (.lst (xs ++ [y])))) : tSeq (tDrop (tBM K "list" rAppend (tVar j) (tCons te tNil))) tz D σ H :=
  ⟨.ref l, hj, Or.inl ⟨rfl, ys, sq_of hl⟩, h⟩
theorem q_parD {σ : L2.St} {H : Hp} {t1 t2 : TE} {D : Ends} {tz : TS} {i j : Nat} (h : t1 σ H fun v H1 => t2 σ H1 fun w H2 => ∃ v' w', [v, w] = [v', w'] ∧ tz D ((σ.set i (some v')).set j (some w')) H2) : tSeq (tPar i j (tCons t1 (tCons t2 tNil))) tz D σ H := h
theorem q_asgD {σ : L2.St} {H : Hp} {te : TE} {D : Ends} {tz : TS} {i : Nat} (h : te σ H fun v H1 => tz D (σ.set i (some v)) H1) : tSeq (tAsg te (gName i)) tz D σ H := h
end KI
set_option Elab.async false
set_option linter.all false
set_option maxRecDepth 100000
set_option maxHeartbeats 4000000
namespace KI
open PySem PySem.Spec PyProof.Rows L2 Evl KF
local macro_rules | `(tactic| walk_at "ev") => `(tactic| repeat' (first | exact ev_c | exact ev_var rfl | exact rv_I0 | refine' rv_I ?_ | refine' rv_eq ?_ | refine' rv_ne ?_ | refine' ev_op ?_ ?_ ?_ | exact ea_nil | refine' ea_cons ?_ ?_ | refine' et_test ?_ | refine' et_B ?_ | refine' et_not ?_ | refine' ev_notV ?_))

open PySem
/-! ### drawn names, and things that are none -/
def OddP (K : PySem.W.Frag) (p : Addr) (H : Hp) (x : V) : Prop := (∃ s : Str, x = .str s ∧ s.cps.size ≤ 1000) ∨ (nmV x = false ∧ ((∃ t : String, kitB t "str" = some false ∧ ∀ H1, TyX K H1 x (.type t)) ∨ ∃ (l : Addr) (o : HO) (t : String), x = .ref l ∧ l ≠ p ∧ H l = some o ∧ kitB t "str" = some false ∧ ∀ H1 : Hp, H1 l = some o → TyX K H1 x (.type t)))
/-- it hangs on the object at x alone -/
def Loc (p : Addr) (B : Hp → V → Prop) : Prop := ∀ (H H' : Hp) x, B H x → (∀ l o, x = .ref l → l ≠ p → H l = some o → H' l = some o) → B H' x
def Stb (p : Addr) (B : Hp → V → Prop) : Prop := ∀ H H' x, B H x → ExB p H H' → B H' x
theorem loc_odd {K : PySem.W.Frag} {p : Addr} : Loc p (OddP K p) := fun H H' x h e => h.imp id fun ⟨n, h⟩ => ⟨n, h.imp id fun ⟨l, o, t, ex, ne, ho, k, ty⟩ => ⟨l, o, t, ex, ne, e l o ex ne ho, k, ty⟩⟩
theorem Loc.stb {p : Addr} {B : Hp → V → Prop} (h : Loc p B) : Stb p B := fun H H' x b e => h H H' x b fun l o _ ne ho => e l o ho ne
theorem stb_odd {K : PySem.W.Frag} {p : Addr} : Stb p (OddP K p) := loc_odd.stb
theorem OddP.odd {K : PySem.W.Frag} {p : Addr} {H : Hp} {x : V} (h : OddP K p H x) : OddV K H x := h.imp id fun ⟨n, h⟩ => by
  rcases h with ⟨t, k, ty⟩ | ⟨l, o, t, ex, ne, ho, k, ty⟩
  · exact ⟨n, t, fun H1 _ => ty H1, k⟩
  · exact ⟨n, t, fun H1 e1 => ty H1 (e1 _ _ ho), k⟩
/-- what it points to is not as old as H -/
def Fresh (H : Hp) (x : V) : Prop := ∀ l, x = .ref l → H l = none
def EvB (B : Hp → V → Prop) (te : TE) (σ : L2.St) (H : Hp) : Prop := ∀ H1, Ex H H1 → ∀ Q : VK, (∀ x H2, Ex H1 H2 → B H2 x → Fresh H1 x → Q x H2) → te σ H1 Q
def EvBs (B : Hp → V → Prop) (ta : TA) (σ : L2.St) (H : Hp) (n : Nat) : Prop := ∀ H1, Ex H H1 → ∀ Q : List V → Hp → Prop, (∀ xs H2, Ex H1 H2 → xs.length = n → (∀ x ∈ xs, B H2 x ∧ Fresh H1 x) → Q xs H2) → ta σ H1 Q
section
variable {K : PySem.W.Frag} {σ : L2.St} {H : Hp} {te : TE} {ta : TA} {B : Hp → V → Prop} {p : Addr} {n k m : Nat} {x : V} {i : Int} {b : Bool} {xs : List V} {D : Ends} {tz : TS}
theorem ebs_nil : EvBs B tNil σ H 0 := fun H1 _ Q q => q [] H1 (Ex.refl H1) rfl (fun _ z => nomatch z)
theorem ebs_cons (st : Stb p B) (h : EvB B te σ H) (r : EvBs B ta σ H n) : EvBs B (tCons te ta) σ H (n + 1) := fun H1 e Q q =>
  h H1 e _ fun x H2 e2 bx fx => r H2 (e.trans e2) _ fun xs H3 e3 l all => q (x :: xs) H3 (e2.trans e3) (by rw [List.length_cons, l]) fun z hz => by
    rcases List.mem_cons.mp hz with rfl | hz
    · exact ⟨st _ _ _ bx (ExB.of e3), fx⟩
    · exact ⟨(all z hz).1, fun l hl => fresh_back e2 ((all z hz).2 l hl)⟩
theorem eb_str {s : Str} (h : s.cps.size ≤ 1000) : EvB (OddP K p) (tC (.str s)) σ H := fun H1 e Q q => q _ H1 (Ex.refl _) (.inl ⟨s, rfl, h⟩) (fun _ z => nomatch z)
theorem eb_non : EvB (OddP K p) (tC .non) σ H := fun H1 e Q q => q _ H1 (Ex.refl _) (.inr ⟨rfl, .inl ⟨"NoneType", by decide +kernel, fun _ => .base .non⟩⟩) (fun _ z => nomatch z)
theorem eb_bl : EvB (OddP K p) (tC (.bl b)) σ H := fun H1 e Q q => q _ H1 (Ex.refl _) (.inr ⟨rfl, .inl ⟨"bool", by decide +kernel, fun _ => .base (.bl _)⟩⟩) (fun _ z => nomatch z)
theorem eb_int : EvB (OddP K p) (tC (.int i)) σ H := fun H1 e Q q => q _ H1 (Ex.refl _) (.inr ⟨rfl, .inl ⟨"int", by decide +kernel, fun _ => .base (.int _)⟩⟩) (fun _ z => nomatch z)
theorem eb_ol (hp : PenAt H p n) (h : EvL te σ H xs) : EvB (OddP K p) te σ H := fun H1 e Q q => h H1 e _ fun l H2 hl e2 h2 => q _ H2 e2 (.inr ⟨rfl, .inr ⟨l, _, "list", rfl, (hp.keep e).ne_new hl, h2, by decide +kernel, fun _ h => .base (.lst h)⟩⟩) (fun l2 z => by cases z; exact hl)
theorem eb_ou (hp : PenAt H p n) (h : EvU te σ H xs) : EvB (OddP K p) te σ H := fun H1 e Q q => h H1 e _ fun l H2 hl e2 h2 => q _ H2 e2 (.inr ⟨rfl, .inr ⟨l, _, "tuple", rfl, (hp.keep e).ne_new hl, h2, by decide +kernel, fun _ h => .base (.tup h)⟩⟩) (fun l2 z => by cases z; exact hl)
theorem eb_od (hp : PenAt H p n) : EvB (OddP K p) tDNewK σ H := fun H1 e Q q l hl => q _ _ (Ex.new hl) (.inr ⟨rfl, .inr ⟨l, _, "dict", rfl, (hp.keep e).ne_new hl, upd_same, by decide +kernel, fun _ h => .base (.dK h)⟩⟩) (fun l2 z => by cases z; exact hl)
/-- x = [odd values] -/
theorem q_asgBs {i : Nat} (st : Stb p B) (h : EvBs B ta σ H k) (hk : k ≤ 1000) (q : ∀ l xs H', H l = none → xs.length = k → Ex H H' → H' l = some (.lst xs) → (∀ x ∈ xs, B H' x ∧ Fresh H x) → tz D (σ.set i (some (.ref l))) H') : tSeq (tAsg (tLst ta) (gName i)) tz D σ H :=
  h H (Ex.refl H) _ fun xs H1 e1 l all => ⟨sz_of (by omega), fun s hs => q s xs _ (fresh_back e1 hs) l (e1.trans (Ex.new hs)) upd_same fun x hx => ⟨st _ _ _ (all x hx).1 (ExB.of (Ex.new hs)), (all x hx).2⟩⟩
end
/-- a comprehension over range whose items move the pen -/
theorem lc_pen {σ : L2.St} {H1 : Hp} {te : TE} {vs : List Nat} {j n step k : Nat} {p lc : Addr} {B : Hp → V → Prop} {Q : VK} (hw : ∀ x, wipe ((wipe σ vs).set j (some x)) vs = wipe σ vs) (st : Loc p B) (pen : PenL H1 p lc k) (hn : n ≤ 1000)
    (he : ∀ x i H3 (QQ : VK), i < n → ExP p H1 H3 → PenL H3 p lc (k + i * step) → (∀ y H4, B H4 y → Fresh H3 y → ExP p H3 H4 → PenL H4 p lc (k + (i + 1) * step) → QQ y H4) → te ((wipe σ vs).set j (some x)) H3 QQ)
    (q : ∀ Dl xs H', H1 Dl = none → xs.length = n → (∀ x ∈ xs, B H' x) → ExP p H1 H' → PenL H' p lc (k + n * step) → H' Dl = some (.lst xs) → Q (.ref Dl) H') :
    tLc (fun _ H R => R (Itr 0 n) H) (gName j) tYes te vs σ H1 Q := fun Dl hD => by
  obtain ⟨np, nl⟩ := pen.ne hD
  refine lc_range (lo := 0) (n := n) (fun i H' => ∃ xs : List V, xs.length = i ∧ (∀ x ∈ xs, B H' x ∧ x ≠ .ref Dl) ∧ ExP p H1 H' ∧ PenL H' p lc (k + i * step) ∧ H' Dl = some (.lst xs)) ⟨[], rfl, (fun _ z => nomatch z), ExP.of (Ex.new hD), (pen.keep (Ex.new hD)).more (by omega), upd_same⟩ (fun t H' hi' qq => ⟨hw _, (et_yes : EvT tYes _ H' true) H' (Ex.refl _) _ fun H3 e3 => ?_⟩) (fun H' qq => ?_)
  · obtain ⟨xs, hl, all, e, b, hd⟩ := qq
    have e := e.trans (ExP.of e3)
    have b := b.keep e3
    have hd := e3 _ _ hd
    show te _ H3 _
    refine he _ t H3 _ hi' e b fun y H4 by4 fy e4 b4 => ⟨xs, e4.ex _ _ hd (Ne.symm np), by rw [hl]; exact Nat.lt_of_lt_of_le (Nat.lt_of_lt_of_le hi' hn) (by decide), xs ++ [y], by rw [List.length_append, hl] <;> rfl, fun z hz => ?_, ⟨fun b' o ho ne => ?_, fun l2 x2 y2 h2 => ?_⟩, b4.upd np nl, upd_same⟩
    · have new : y ≠ .ref Dl := fun z => by
        rw [fy Dl z] at hd
        cases hd
      have grow : ∀ z, B H4 z → z ≠ .ref Dl → B (upd H4 Dl (.lst (xs ++ [y]))) z := fun z bz ne => st _ _ _ bz fun l o ez _ ho => by rw [upd_ne (fun el => ne (by rw [ez, el]))]; exact ho
      rcases List.mem_append.mp hz with hz | hz
      · exact ⟨grow z (st.stb _ _ _ (all z hz).1 ((ExB.of e3).trans e4.ex)) (all z hz).2, (all z hz).2⟩
      · rw [List.mem_singleton.mp hz]
        exact ⟨grow y by4 new, new⟩
    · rw [upd_ne (ne_of_none ho hD)]
      exact (e.trans e4).ex _ _ ho ne
    · obtain ⟨x3, y3, h3⟩ := (e.trans e4).fix l2 x2 y2 h2
      exact ⟨x3, y3, by rw [upd_ne np]; exact h3⟩
  · obtain ⟨xs, hl, all, e, b, hd⟩ := qq
    exact q Dl xs H' hD hl (fun x hx => (all x hx).1) e b hd
theorem ret_raw {te : TE} {σ : L2.St} {H : Hp} {D : Ends} (h : te σ H D.rt) : tRet te D σ H := h
/-- a comprehension over range(..) -/
theorem lc_rng1 {ta : TA} {g : TG} {tt : TT} {te : TE} {vs : List Nat} {σ : L2.St} {H : Hp} {Q : VK} (h : ta σ H fun ws H1 => ∃ j : Int, ws = [.int j] ∧ -(2 ^ 62) ≤ j ∧ j < 2 ^ 62 ∧ tLc (fun _ H R => R (Itr 0 j.toNat) H) g tt te vs σ H1 Q) : tLc (iRng1 ta) g tt te vs σ H Q := h
/-- 1 + draw(pen, m) -/
theorem draw_rI {σ : L2.St} {H : Hp} {te : TE} {E : XK} {i n : Nat} {p lc : Addr} {QQ : List V → Hp → Prop} (m : Nat) (hi : σ[i]? = some (some (.ref p))) (hm : Ev te σ H (.int (m : Nat))) (pen : PenL H p lc n) (hn : n < 100000) (h0 : 0 < m) (hl : m ≤ 1000) (k : ∀ (d : Nat) H', d < m → ExP p H H' → PenL H' p lc (n + 1) → QQ [.int (1 + (d : Int))] H') : tCons (tOp (rI0 fun i j => .int (i + j)) (tC (.int 1)) (tCall spDraw [] E (tCons (tVar i) (tCons te tNil)))) tNil σ H QQ :=
  draw_r (p := p) (lc := lc) m hi hm pen hn h0 hl fun d H' hd e b => ⟨1, (d : Int), rfl, rfl, k d H' hd e b⟩
def ltrB : Hp → V → Prop := fun _ x => ∃ c, c ∈ lettersS.cps.toList ∧ x = .str ⟨#[c]⟩
theorem loc_ltr {p : Addr} : Loc p ltrB := fun _ _ _ h _ => h
theorem ltrs_of : ∀ {xs : List V}, (∀ x ∈ xs, ∃ c, c ∈ lettersS.cps.toList ∧ x = .str ⟨#[c]⟩) → ∃ ys : List Str, xs = ys.map V.str ∧ (ys.map (·.length)).sum = xs.length ∧ (Txt.join "" ys).cps.size = xs.length
  | [], _ => ⟨[], rfl, rfl, rfl⟩
  | x :: xs, h => by
    obtain ⟨c, _, rfl⟩ := h x (List.mem_cons_self ..)
    obtain ⟨ys, e, l, z⟩ := ltrs_of (xs := xs) fun y hy => h y (List.mem_cons_of_mem _ hy)
    refine ⟨⟨#[c]⟩ :: ys, by rw [e]; rfl, ?_, ?_⟩
    · show (1 : Nat) + (ys.map (·.length)).sum = xs.length + 1
      omega
    · rw [TL.join_eq] at z ⊢
      cases ys with
      | nil =>
        cases xs with
        | nil => rfl
        | cons _ _ => cases e
      | cons d r =>
        show (⟨#[c]⟩ ++ ("" : Str) ++ Str.join "" (d :: r) : Str).cps.size = xs.length + 1
        rw [← z]
        show (#[c] ++ #[] ++ (Str.join "" (d :: r)).cps).size = _
        simp
        omega
def spDN (K : PySem.W.Frag) : Sp := fun vs H Q _ => ∃ (p lc : Addr) (n : Nat), vs = [.ref p] ∧ PenL H p lc n ∧ n + 10 ≤ 100000 ∧ ∀ x H', OddP K p H' x → Fresh H x → ExP p H H' → PenL H' p lc (n + 10) → Q x H'
theorem ExP.old {p : Addr} {H H' : Hp} (e : ExP p H H') {l : Addr} (h : H' l = none) (n : l ≠ p) : H l = none := by
  cases x : H l with
  | none => rfl
  | some o =>
    have := e.ex _ _ x n
    rw [h] at this
    cases this
section
variable {P : Program} {w : World} {K : PySem.W.Frag} {mg : Str → Option Value} {base : Heap} {a : Ads}
theorem ok_dn (T : Txt P w K mg a) : FnOk P w K mg base CX0 3 a.f__law_drawn_name a.d__law_drawn_name ["_law_pen_here"] (spDN K) := by
  have G__law_draw : FnOk P w K mg base CX0 2 _ _ _ _ := (ok_draw T).mono (by decide)
  have G__law_pick : FnOk P w K mg base CX0 2 _ _ _ _ := (ok_pick T).mono (by decide)
  refine T.fn__law_drawn_name.ok sc__law_drawn_name (fun vs H Q E h => ?_) (fun cdv A outer st H vs Q E hr h => ?_)
  · obtain ⟨_, _, _, rfl, _⟩ := h
    rfl
  · obtain ⟨p, lc, n, rfl, pen, hn, k⟩ := h
    have hrc : Room 2 _ := hr
    refine ⟨_, (pss_cons (ps_set (i := 1) sc__law_drawn_name.nd rfl (Or.inl rfl) (pe_lst (pa_cons pe_str (pa_cons pe_str (pa_cons pe_str (pa_cons pe_str (pa_cons pe_non (pa_cons pe_int (pa_cons pe_bl (pa_cons (pe_tup (pa_cons pe_str pa_nil)) (pa_cons (pe_lst (pa_cons pe_str pa_nil)) (pa_cons pe_str (pa_cons pe_str (pa_cons pe_str (pa_cons pe_dnewK (pa_cons pe_str pa_nil))))))))))))))))
    (pss_cons (ps_set (i := 2) sc__law_drawn_name.nd rfl (Or.inl rfl) (pe_call G__law_draw hrc rfl T.mg__law_draw T.fn__law_draw.kp (bd__law_draw T) .nil pass0 (pa_cons (pv 0) (pa_cons pe_int pa_nil))))
    (pss_cons (ps_if (pt_cmpR op_eq (pv 2) pe_int (nomark _)) (pss_one (ps_ret (pe_call G__law_pick hrc rfl T.mg__law_pick T.fn__law_pick.kp (bd__law_pick T) .nil pass0 (pa_cons (pv 0) (pa_cons (pv 1) pa_nil))))) pss_nil)
    (pss_cons (ps_if (pt_cmpR op_eq (pv 2) pe_int (nomark _)) (pss_one (ps_ret (pe_call G__law_pick hrc rfl T.mg__law_pick T.fn__law_pick.kp (bd__law_pick T) .nil pass0 (pa_cons (pv 0) (pa_cons (pe_lst (pa_cons pe_str (pa_cons pe_str (pa_cons pe_str (pa_cons pe_str pa_nil))))) pa_nil))))) pss_nil)
    (pss_cons (ps_set (i := 3) sc__law_drawn_name.nd rfl (Or.inr rfl) pe_str)
    (pss_one (ps_ret (pe_join pe_str (pe_lc (own := [("_law_k", 4)]) (g := gName 4) rfl sc__law_drawn_name.nd (pi_range1 rfl T.b_range (pa_cons (pe_op op_add pe_int (pe_call G__law_draw hrc rfl T.mg__law_draw T.fn__law_draw.kp (bd__law_draw T) .nil pass0 (pa_cons (pv 0) (pa_cons pe_int pa_nil)))) pa_nil)) (blkOk_by (own := [("_law_k", 4)]) (N := n__law_drawn_name) (sc := defScope s__law_drawn_name) (by decide +kernel)) (fun _ _ _ _ _ => (pg_name (i := 4) sc__law_drawn_name.nd rfl (Or.inl rfl))) (fun _ _ _ _ _ => pts_nil) (fun _ _ _ _ _ => (pe_call G__law_pick hrc rfl T.mg__law_pick T.fn__law_pick.kp (bd__law_pick T) .nil pass0 (pa_cons (pv 0) (pa_cons (pv 3) pa_nil))))))))))))), ?_⟩
    refine q_asgBs (p := p) (B := OddP K p) (k := 14) stb_odd (ebs_cons stb_odd (eb_str (by decide)) (ebs_cons stb_odd (eb_str (by decide)) (ebs_cons stb_odd (eb_str (by decide)) (ebs_cons stb_odd (eb_str (by decide)) (ebs_cons stb_odd eb_non (ebs_cons stb_odd eb_int (ebs_cons stb_odd eb_bl (ebs_cons stb_odd (eb_ou pen.pen (eu_tup (vs := [.str "ann"]) (ea_cons ev_c ea_nil) (by decide))) (ebs_cons stb_odd (eb_ol pen.pen (el_lst (vs := [.str "ann"]) (ea_cons ev_c ea_nil) (by decide))) (ebs_cons stb_odd (eb_str (by decide)) (ebs_cons stb_odd (eb_str (by decide)) (ebs_cons stb_odd (eb_str (by decide)) (ebs_cons stb_odd (eb_od pen.pen) (ebs_cons stb_odd (eb_str (by decide)) ebs_nil)))))))))))))) (by decide) fun l xs H1 hl hx e1 h1 all => ?_
    have pen1 := pen.keep e1
    have lp : l ≠ p := pen.pen.ne_new hl
    refine q_asgD (draw_r (p := p) (lc := lc) 4 rfl ev_c pen1 (by omega) (by decide) (by decide) fun w H2 hw e2 pen2 => ?_)
    refine q_when (b := decide (V.int (w : Nat) = V.int 0)) (et_test (ev_op (ev_var rfl) ev_c (rv_eq rfl))) (fun hb H3 e3 => ?_) (fun hb H3 e3 => ?_)
    · refine ret_raw (pick_raw rfl (ev_raw (ev_var rfl) fun H4 e4 => pk_list (lc := lc) (pen2.keep (e3.trans e4)) (by omega) (e4 _ _ (e3 _ _ (e2.ex _ _ h1 lp))) lp (by omega) (by omega) fun x H5 hx5 e5 pen5 => ?_))
      have e15 := (e2.trans (ExP.of (e3.trans e4))).trans e5
      exact k x H5 (stb_odd _ _ _ (all x hx5).1 e15.ex) (all x hx5).2 ((ExP.of e1).trans e15) (pen5.more (by omega))
    refine q_when (b := decide (V.int (w : Nat) = V.int 1)) (et_test (ev_op (ev_var rfl) ev_c (rv_eq rfl))) (fun hb2 H4 e4 => ?_) (fun hb2 H4 e4 => ?_)
    · have e14 := e2.trans (ExP.of (e3.trans e4))
      have pen4 := pen2.keep (e3.trans e4)
      refine ret_raw (pick_raw rfl (el_raw (el_lst (vs := [.str "ann", .str "staff", .str "z", .str "abcdefgh"]) (ea_cons ev_c (ea_cons ev_c (ea_cons ev_c (ea_cons ev_c ea_nil)))) (by show 4 ≤ 100000; decide)) fun q7 H5 hq7 e5 h5 => pk_list (lc := lc) (pen4.keep e5) (by omega) h5 (pen4.pen.ne_new hq7) (by show 0 < 4; decide) (by show 4 ≤ 1000; decide) fun x H6 hx6 e6 pen6 => ?_))
      have ox : ∃ s : Str, x = .str s ∧ s.cps.size ≤ 1000 := by
        simp only [List.mem_cons, List.not_mem_nil, or_false] at hx6
        rcases hx6 with rfl | rfl | rfl | rfl <;> exact ⟨_, rfl, by decide⟩
      exact k x H6 (.inl ox) (fun l z => by obtain ⟨s, e, _⟩ := ox; rw [e] at z; cases z) (((ExP.of e1).trans e14).trans ((ExP.of e5).trans e6)) (pen6.more (by omega))
    have e14 := e2.trans (ExP.of (e3.trans e4))
    have pen4 := pen2.keep (e3.trans e4)
    refine q_asg (v := .str lettersS) ev_c fun H5 e5 => ?_
    have pen5 := pen4.keep e5
    refine ret_raw ⟨⟨_, rfl⟩, lc_rng1 (draw_rI (p := p) (lc := lc) 8 rfl ev_c pen5 (by omega) (by decide) (by decide) fun d H6 hd e6 pen6 => ⟨1 + (d : Int), rfl, by omega, by omega, ?_⟩)⟩
    have cd : (1 + (d : Int)).toNat = d + 1 := by omega
    rw [cd]
    refine lc_pen (p := p) (lc := lc) (k := n + 2) (step := 1) (B := ltrB) (fun _ => rfl) loc_ltr (pen6.more (by omega)) (by omega) (fun x i H7 QQ hi e7 pen7 kk => ?_) (fun Dl xs H7 hD hlen all7 e7 pen7 h7 => ?_)
    · refine pick_raw rfl (ev_raw (ev_var (v := .str lettersS) rfl) fun H8 e8 => pk_str (lc := lc) (pen7.keep e8) (by omega) (by decide) (by decide) fun c H9 hc e9 b9 => ?_)
      exact kk _ H9 ⟨c, hc, rfl⟩ (fun _ z => nomatch z) ((ExP.of e8).trans e9) (b9.more (by omega))
    · obtain ⟨ys, ey, l1, z1⟩ := ltrs_of all7
      have ly : ys.length = xs.length := by rw [ey, List.length_map]
      refine ⟨"", Dl, ys, rfl, rfl, .inl (sq_of (by rw [← ey]; exact h7)), ?_, ?_⟩
      · rw [l1, ly]
        show xs.length + xs.length * 0 ≤ 16777216
        omega
      · exact k _ H7 (.inl ⟨_, rfl, by rw [z1]; omega⟩) (fun _ z => nomatch z) ((((ExP.of e1).trans e14).trans (ExP.of e5)).trans (e6.trans e7)) (pen7.more (by omega))
end
end KI
set_option Elab.async false
set_option linter.all false
set_option maxRecDepth 100000
set_option maxHeartbeats 4000000
namespace KI
open PySem PySem.Spec PyProof.Rows L2 Evl KF
local macro_rules | `(tactic| walk_at "ev") => `(tactic| repeat' (first | exact ev_c | exact ev_var rfl | exact rv_I0 | refine' rv_I ?_ | refine' rv_eq ?_ | refine' rv_ne ?_ | refine' ev_op ?_ ?_ ?_ | exact ea_nil | refine' ea_cons ?_ ?_ | refine' et_test ?_ | refine' et_B ?_ | refine' et_not ?_ | refine' ev_notV ?_))

open PySem
/-! ### what the law says of a user's parts -/
theorem flat_strs : ∀ gs : List Str, (gs.map V.str).all flatV = true
  | [] => rfl
  | _ :: gs => flat_strs gs
theorem inV_strs (w : Str) : ∀ ys : List Str, inV (.str w) (ys.map V.str) = decide (w ∈ ys)
  | [] => rfl
  | y :: ys => by
    have ih := inV_strs w ys
    unfold inV at ih ⊢
    rw [List.map_cons, List.any_cons, ih]
    by_cases h : w = y
    · subst h
      simp [eqV]
    · have : ¬ (V.str w = V.str y) := fun z => h (by injection z)
      simp [eqV, h, Ne.symm h]
theorem given_none {n : Nat} {f : Nat → Bool} {v : Nat → V} : (given n f v = []) ↔ ∀ i, i < n → f i = false := by
  unfold given
  rw [List.map_eq_nil_iff, List.filter_eq_nil_iff]
  constructor
  · intro h i hi
    have := h i (List.mem_range.mpr hi)
    simpa using this
  · intro h i hi
    rw [h i (List.mem_range.mp hi)]
    decide
def clsA (a : Ads) (ch : Bool) : Addr := if ch then a.f_Chief else a.f_User
def pV : Option Str → V
  | none => .non
  | some s => .str s
/-- how making one goes, from the law's hands -/
def Made (a : Ads) (ch : Bool) (x : V) (xs : List V) (H : Hp) (Q : VK) (E : XK) : Prop := (partOf x xs = none → ∀ (nm : Str) (gs : List Str) (b : Addr) H', x = .str nm → xs = gs.map V.str → H b = none → Ex H H' → UserAt H' b (clsA a ch) nm gs → Q (.ref b) H') ∧ ∀ s, partOf x xs = some s → Told a E H s
theorem Made.on {a : Ads} {ch : Bool} {x : V} {xs : List V} {H H1 : Hp} {Q : VK} {E : XK} (h : Made a ch x xs H Q E) (e : Ex H H1) : Made a ch x xs H1 Q E := ⟨fun n nm gs b H' e1 e2 hb ex u => h.1 n nm gs b H' e1 e2 (fresh_back e hb) (e.trans ex) u, fun s n => (h.2 s n).back e⟩
def spWP (K : PySem.W.Frag) : Sp := fun vs H Q _ => ∃ (g : Addr) (x : V) (xs : List V), vs = [x, .ref g] ∧ H g = some (.lst xs) ∧ MayBe K H x xs ∧ ∀ H', Ex H H' → Q (pV (partOf x xs)) H'
def spMU (K : PySem.W.Frag) (a : Ads) : Sp := fun vs H Q E => ∃ (g : Addr) (x : V) (xs : List V) (ch : Bool), vs = [.bl ch, x, .ref g] ∧ H g = some (.lst xs) ∧ MayBe K H x xs ∧ (ch = true → xs.length ≤ 3) ∧ Made a ch x xs H Q E
section
variable {K : PySem.W.Frag} {σ : L2.St} {H : Hp} {te tl : TE} {ta : TA} {g C : Addr} {xs : List V} {x : V} {i : Nat} {Q : VK} {E : XK} {a : Ads}
theorem ev_ixl (h : Ev te σ H (.ref g)) (hp : H g = some (.lst xs)) (hx : xs[i]? = some x) : Ev (tOp (rIxL K) te (tC (.int (i : Nat)))) σ H x := ev_op h ev_c (rv_ixL (sq_of hp) (atI_nat hx))
theorem ev_ixv {ti : TE} (h : Ev te σ H (.ref g)) (hi : Ev ti σ H (.int (i : Nat))) (hp : H g = some (.lst xs)) (hx : xs[i]? = some x) : Ev (tOp (rIxL K) te ti) σ H x := ev_op h hi (rv_ixL (sq_of hp) (atI_nat hx))
theorem cut_first (n : Nat) : cutV xs none (some (n : Nat)) = xs.take n := by
  unfold cutV
  rw [HT.sIx_none, HT.sIx_nat, List.drop_zero, Nat.sub_zero]
  by_cases h : n ≤ xs.length
  · rw [Nat.min_eq_left h]
  · rw [Nat.min_eq_right (by omega), List.take_length, List.take_of_length_le (by omega)]
theorem em_user {ch : Bool} (h : EvA ta σ H (x :: xs)) (mb : MayBe K H x xs) (mk : Made a ch x xs H Q E) (e : C = clsA a ch) : StX.tMakeR C (spMadeU K a C) E ta σ H Q := by
  subst e
  exact h H (Ex.refl H) _ fun H2 e2 b db hb hdb hne => by
    have hb2 : upd H2 db (.own b) b = none := by rw [upd_ne (Ne.symm hne)]; exact hb
    have en : Ex H2 (upd (upd H2 db (.own b)) b (.ins (clsA a ch) db [])) := (Ex.new hdb).trans (Ex.new hb2)
    refine ⟨b, db, x, xs, rfl, mb.mono (e2.trans en), upd_same, fun n nm gs H' e1 e3 ex u => ⟨rfl, mk.1 n nm gs b H' e1 e3 (fresh_back e2 hb) ?_ u⟩, fun s n => (mk.2 s n).back (e2.trans en)⟩
    exact fun c o hc => ex _ _ (en _ _ (e2 _ _ hc)) (ne_of_none (e2 _ _ hc) hb)
theorem if_rawB {t : TT} {t1 t2 : TE} {b : Bool} (h : EvT t σ H b) (h1 : b = true → ∀ H1, Ex H H1 → t1 σ H1 Q) (h2 : b = false → ∀ H1, Ex H H1 → t2 σ H1 Q) : tIf t t1 t2 σ H Q := h H (Ex.refl H) _ fun H1 e1 => by
  cases b with
  | true => exact h1 rfl H1 e1
  | false => exact h2 rfl H1 e1
end
theorem unV_take {xs : List V} {i : Nat} {s : Str} {ys : List Str} (ht : xs.take i = ys.map V.str) (hx : xs[i]? = some (.str s)) : xs.take (i + 1) = (ys ++ [s]).map V.str := by
  rw [List.take_succ, ht, hx, List.map_append]
  rfl
theorem filter_strs : ∀ ys : List Str, (ys.map V.str).filterMap strOf = ys
  | [] => rfl
  | y :: ys => congrArg (y :: ·) (filter_strs ys)
theorem gsOk_len {xs : List V} (h : 2 < xs.length) : gsOk xs = false := by
  unfold gsOk
  rw [decide_eq_false (by omega), Bool.false_and]
theorem gsOk_odd {xs : List V} {x : V} (h : x ∈ xs) (n : nmV x = false) : gsOk xs = false := by
  unfold gsOk
  have : xs.all nmV = false := by
    refine Bool.eq_false_iff.mpr fun z => ?_
    have := List.all_eq_true.mp z x h
    rw [n] at this
    cases this
  rw [this, Bool.false_and, Bool.and_false]
theorem gsOk_twice {xs : List V} {i : Nat} {s : Str} {ys : List Str} (ht : xs.take i = ys.map V.str) (hx : xs[i]? = some (.str s)) (hs : s ∈ ys) : gsOk xs = false := by
  unfold gsOk unV
  have e : xs = (ys ++ [s]).map V.str ++ xs.drop (i + 1) := by rw [← unV_take ht hx, List.take_append_drop]
  have : ¬ (xs.filterMap strOf).Nodup := by
    rw [e, List.filterMap_append, filter_strs]
    intro nd
    have := (List.nodup_append.mp nd).1
    exact (List.nodup_append.mp this).2.2 s hs s (List.mem_singleton.mpr rfl) rfl
  rw [decide_eq_false this, Bool.and_false, Bool.and_false]
theorem gsOk_all {xs : List V} {ys : List Str} (e : xs = ys.map V.str) (hl : xs.length ≤ 2) (ha : ∀ x ∈ xs, nmV x = true) (nd : ys.Nodup) : gsOk xs = true := by
  unfold gsOk unV
  rw [decide_eq_true hl, List.all_eq_true.mpr ha, e, filter_strs, decide_eq_true nd]
  rfl
theorem part_groups {x : V} {xs : List V} (h : nmV x = true) (g : gsOk xs = false) : partOf x xs = some ("groups" : Str) := by
  unfold partOf
  rw [if_neg (by rw [h]; decide), if_pos g]
theorem part_none {x : V} {xs : List V} (h : nmV x = true) (g : gsOk xs = true) : partOf x xs = none := by
  unfold partOf
  rw [if_neg (by rw [h]; decide), if_neg (by rw [g]; decide)]
section
variable {P : Program} {w : World} {K : PySem.W.Frag} {mg : Str → Option Value} {base : Heap} {a : Ads}
theorem ok_ln (T : Txt P w K mg a) : FnOk P w K mg base CX0 1 a.f__law_is_name a.d__law_is_name ["_law_thing"] (spName K) := by
  refine T.fn__law_is_name.ok sc__law_is_name (fun vs H Q E h => ?_) (fun cdv A outer s H vs Q E hr h => ?_)
  · obtain ⟨_, rfl, _⟩ := h
    rfl
  · obtain ⟨x, rfl, odd, k⟩ := h
    refine ⟨_, (pss_cons (ps_if (PW.pt (pw_or (pt_not (pt_val (pe_callB call_isi (by rfl) T.b_isinstance PyProof.Rows.boot_isinstance (pa_cons (pv 0) (pa_cons (pe_bltn (v := .ty "str") (by rfl) T.b_str (by decide +kernel) rfl) pa_nil))))) (pw_or1 (pt_not (pt_chain op_le op_le pe_int (pe_callB call_len_str (by rfl) T.b_len PySem.boot_len (pa_cons (pv 0) pa_nil)) pe_int))))) (pss_one (ps_ret pe_bl)) pss_nil)
    (pss_one (ps_ret (pe_cmpR (KV.op_eqNilL rfl hr.units) (pe_lc (own := [("_law_sign", 1)]) (g := gName 1) rfl sc__law_is_name.nd (pi_str (pv 0)) (blkOk_by (own := [("_law_sign", 1)]) (N := n__law_is_name) (sc := defScope s__law_is_name) (by decide +kernel)) (fun _ _ _ _ _ => (pg_name (i := 1) sc__law_is_name.nd rfl (Or.inl rfl))) (fun _ _ _ _ _ => (pts_one (pt_cmpR op_notIn_sign (pv 1) pe_str (by rfl)))) (fun _ _ _ _ _ => (pv 1))) (pe_lst pa_nil) (nomark _))))), ?_⟩
    rcases odd with ⟨s, rfl, sz⟩ | ⟨no, t, ty, kt⟩
    · have hl : s.length = s.cps.size := rfl
      have hr2 : decide ((1 : Int) ≤ (s.length : Nat)) = decide (1 ≤ s.cps.size) := decide_eq_decide.mpr (by omega)
      have hr8 : decide (((s.length : Nat) : Int) ≤ 8) = decide (s.cps.size ≤ 8) := decide_eq_decide.mpr (by omega)
      refine q_when (b := !(decide (1 ≤ s.cps.size) && decide (s.cps.size ≤ 8))) (et_is (et_or (a := false) (b := !(decide (1 ≤ s.cps.size) && decide (s.cps.size ≤ 8))) (et_is (et_not (a := true) (et_B (ev_isi (ea_cons (ev_var rfl) (ea_cons ev_c ea_nil)) (.ty _) (fun _ _ => .base (.str _)) (kit_ty (by decide +kernel))))) rfl) fun _ => et_not (a := decide (1 ≤ s.cps.size) && decide (s.cps.size ≤ 8)) (et_test (ev_is (ev_chain ev_c (ev_lenStr (ev_var rfl) (by omega)) rv_I0 fun _ => ⟨ev_c, rv_I0⟩) ?_))) rfl) (fun hb H1 e1 => ?_) fun hb H1 e1 => ?_
      · rw [hr2, hr8]
      · refine s_ret (v := .bl false) ev_c fun H2 e2 => ?_
        have := k H2 (e1.trans e2)
        have z : nmV (.str s) = false := by
          show nmS s = false
          unfold nmS
          rw [not_t hb]
          rfl
        rw [z] at this
        exact this
      · have hh := not_f hb
        refine s_ret (v := .bl (nmV (.str s))) (ev_is (KV.ev_eqNilN (K := K) (neg := false) (el_lcS (s := s) (fun i => !((s.cps.toList[i]?).map fun c => decide (c ∈ lettersS.cps.toList)).getD true) (fun i => .str ⟨#[(s.cps.toList[i]?).getD 0]⟩) (ev_var rfl) (by omega) (fun _ => rfl) (fun i c H4 e4 hx => ?_) fun i c H4 e4 hx _ => ?_) (el_lst (vs := []) ea_nil (by decide))) (congrArg V.bl ?_)) fun H2 e2 => k H2 (e1.trans e2)
        · rw [← Array.getElem?_toList] at hx
          rw [hx]
          exact et_test (ev_op (ev_var rfl) ev_c fun H1 _ _ q => ⟨c, lettersS, rfl, rfl, q H1 (Ex.refl H1)⟩)
        · rw [← Array.getElem?_toList] at hx
          rw [hx]
          exact ev_var rfl
        · show decide _ = nmS s
          unfold nmS
          rw [hh, Bool.true_and, Bool.eq_iff_iff, decide_eq_true_iff, given_none, List.all_eq_true]
          constructor
          · intro h c hc
            obtain ⟨i, hi, rfl⟩ := List.mem_iff_getElem.mp hc
            have := h i (by rw [← Array.length_toList]; exact hi)
            rw [List.getElem?_eq_getElem hi] at this
            exact not_f this
          · intro h i hi
            rw [← Array.length_toList] at hi
            rw [List.getElem?_eq_getElem hi]
            have := h _ (List.getElem_mem hi)
            show (!decide _) = false
            rw [this]
            rfl
    · rw [no] at k
      refine q_when (b := true) (et_or (a := true) (b := true) (et_is (et_not (a := false) (et_B (ev_isi (ea_cons (ev_var rfl) (ea_cons ev_c ea_nil)) (.ty _) ty (kit_ty kt)))) rfl) fun z => nomatch z) (fun _ H1 e1 => ?_) fun z => nomatch z
      exact s_ret (v := .bl false) ev_c fun H2 e2 => k H2 (e1.trans e2)
theorem ok_wp (T : Txt P w K mg a) : FnOk P w K mg base CX0 2 a.f__law_wrong_part a.d__law_wrong_part ["_law_name", "_law_groups"] (spWP K) := by
  have G__law_is_name : FnOk P w K mg base CX0 1 _ _ _ _ := ok_ln T
  refine T.fn__law_wrong_part.ok sc__law_wrong_part (fun vs H Q E h => ?_) (fun cdv A outer s H vs Q E hr h => ?_)
  · obtain ⟨_, _, _, rfl, _⟩ := h
    rfl
  · obtain ⟨g, x, xs, rfl, hg, mb, k⟩ := h
    have hrc : Room 1 _ := hr
    refine ⟨_, (pss_cons (ps_if (pt_not (pt_val (pe_call G__law_is_name hrc rfl T.mg__law_is_name T.fn__law_is_name.kp (bd__law_is_name T) .nil pass0 (pa_cons (pv 0) pa_nil)))) (pss_one (ps_ret pe_str)) pss_nil)
    (pss_cons (ps_for PassesOwn.never rfl (pi_range1 rfl T.b_range (pa_cons (pe_callB call_len_seq (by rfl) T.b_len PySem.boot_len (pa_cons (pv 1) pa_nil)) pa_nil)) (pg_name (i := 2) sc__law_wrong_part.nd rfl (Or.inl rfl)) (pss_one (ps_if (PW.pt (pw_or (pt_cmpR op_gt (pv 2) pe_int (nomark _)) (pw_or (pt_not (pt_val (pe_call G__law_is_name hrc rfl T.mg__law_is_name T.fn__law_is_name.kp (bd__law_is_name T) .nil pass0 (pa_cons (pe_ix ix_list (pv 1) (pv 2) (fun _ _ => rfl)) pa_nil)))) (pw_or1 (pt_cmpR op_in_seq (pe_ix ix_list (pv 1) (pv 2) (fun _ _ => rfl)) (pe_slice sl_list (pv 1) po_none (po_some (pv 2))) (by rfl)))))) (pss_one (ps_ret pe_str)) pss_nil)))
    (pss_one (ps_ret pe_non)))), ?_⟩
    have le4 := mb.le
    refine q_when (b := !nmV x) (et_not (a := nmV x) (et_B (ev_call (vs := [x]) (ea_cons (ev_var rfl) ea_nil) fun H2 e Q q E => ⟨x, rfl, mb.name.mono e, q⟩))) (fun hb1 H1 e1 => ?_) fun hb1 H1 e1 => ?_
    · have z := not_t hb1
      refine s_ret (v := .str "name") ev_c fun H2 e2 => ?_
      have := k H2 (e1.trans e2)
      unfold partOf at this
      rw [if_pos z] at this
      exact this
    have z := not_f hb1
    have hg1 := e1 _ _ hg
    have bad : ∀ H2, Ex H H2 → gsOk xs = false → Q (.str "groups") H2 := fun H2 e2 gb => by
      have := k H2 e2
      rw [part_groups z gb] at this
      exact this
    refine q_forR1 (n := (xs.length : Nat)) (ea_cons (ev_lenS (K := K) (ev_var rfl) (sq_of hg1)) ea_nil) (by omega) (fun i σ' H' => ∃ (o : Option V) (ys : List Str), σ' = [some x, some (.ref g), o] ∧ Ex H H' ∧ i ≤ 2 ∧ xs.take i = ys.map V.str ∧ ys.Nodup ∧ ∀ y ∈ xs.take i, nmV y = true) (fun H2 e2 => ⟨_, [], rfl, e1.trans e2, by omega, rfl, .nil, fun _ z => nomatch z⟩) (fun i σ' H2 hi q => ?_) (fun σ' H2 q => ?_)
    · obtain ⟨o, ys, rfl, e2, i2, ht, nd, al⟩ := q
      have hi : i < xs.length := by simpa using hi
      have hg2 := e2 _ _ hg
      have hx : xs[i]? = some xs[i] := List.getElem?_eq_getElem hi
      have mem : xs[i] ∈ xs := List.getElem_mem hi
      refine s_when (b := decide (1 < i) || (!nmV xs[i] || inV xs[i] (xs.take i))) (et_or (a := decide (1 < i)) (et_is (et_test (ev_op (ev_var rfl) ev_c rv_I0)) (decide_eq_decide.mpr (by omega))) fun h1 => et_or (a := !nmV xs[i]) (et_not (a := nmV xs[i]) (et_B (ev_call (vs := [xs[i]]) (ea_cons (ev_ixv (K := K) (ev_var rfl) (ev_var rfl) hg2 hx) ea_nil) fun H3 e Q q E => ⟨xs[i], rfl, (mb.gs _ mem).mono (e2.trans e), q⟩))) fun h2 => ?_) (fun hb H3 e3 => ?_) fun hb H3 e3 => ?_
      · obtain ⟨s, es⟩ := str_of (not_f h2)
        refine et_test (ev_opL (ev_ixv (K := K) (ev_var rfl) (ev_var rfl) hg2 hx) (el_is (el_sliceL (K := K) (ev_var rfl) eo_none (eo_some (ev_var rfl)) (sq_of hg2)) (cut_first i)) fun q H4 hq e4 => ?_)
        refine rv_isL (K := K) (sq_of hq) (by rw [es]; rfl) (by rw [ht]; exact flat_strs _)
      · refine s_ret (v := .str "groups") ev_c fun H4 e4 => bad H4 ((e2.trans e3).trans e4) ?_
        rw [Bool.or_eq_true, Bool.or_eq_true] at hb
        rcases hb with h | h | h
        · exact gsOk_len (by have := of_decide_eq_true h; omega)
        · exact gsOk_odd mem (not_t h)
        · by_cases hn : nmV xs[i] = true
          · obtain ⟨s, es⟩ := str_of hn
            rw [es, ht, inV_strs] at h
            exact gsOk_twice ht (hx.trans (congrArg some es)) (of_decide_eq_true h)
          · exact gsOk_odd mem (Bool.eq_false_iff.mpr hn)
      · rw [Bool.or_eq_false_iff, Bool.or_eq_false_iff] at hb
        obtain ⟨h1, h2, h3⟩ := hb
        obtain ⟨s, es⟩ := str_of (not_f h2)
        have ht1 := unV_take ht (hx.trans (congrArg some es))
        rw [es, ht, inV_strs] at h3
        refine ⟨_, ys ++ [s], rfl, e2.trans e3, by have := of_decide_eq_false h1; omega, ht1, ?_, fun y hy => ?_⟩
        · exact List.nodup_append.mpr ⟨nd, by simp, fun u hu v hv z => by rw [List.mem_singleton.mp hv] at z; rw [z] at hu; exact of_decide_eq_false h3 hu⟩
        · rw [List.take_succ, hx] at hy
          rcases List.mem_append.mp hy with hy | hy
          · exact al y hy
          · rw [List.mem_singleton.mp (show y ∈ [xs[i]] from hy)]
            exact not_f h2
    · obtain ⟨o, ys, rfl, e2, i2, ht, nd, al⟩ := q
      have hi : (xs.length : Int).toNat = xs.length := Int.toNat_natCast _
      rw [hi] at i2 ht al
      rw [List.take_length] at ht al
      refine s_ret (v := .non) ev_c fun H3 e3 => ?_
      have := k H3 (e2.trans e3)
      rw [part_none z (gsOk_all ht i2 al nd)] at this
      exact this
end
end KI
set_option Elab.async false
set_option linter.all false
set_option maxRecDepth 100000
set_option maxHeartbeats 4000000
namespace KI
open PySem PySem.Spec PyProof.Rows L2 Evl KF
local macro_rules | `(tactic| walk_at "ev") => `(tactic| repeat' (first | exact ev_c | exact ev_var rfl | exact rv_I0 | refine' rv_I ?_ | refine' rv_eq ?_ | refine' rv_ne ?_ | refine' ev_op ?_ ?_ ?_ | exact ea_nil | refine' ea_cons ?_ ?_ | refine' et_test ?_ | refine' et_B ?_ | refine' et_not ?_ | refine' ev_notV ?_))

open PySem
section
variable {P : Program} {w : World} {K : PySem.W.Frag} {mg : Str → Option Value} {base : Heap} {a : Ads}
theorem ok_mu (T : Txt P w K mg a) : FnOk P w K mg base (L2.CX P w) 7 a.f__law_made_user a.d__law_made_user ["_law_is_chief", "_law_name", "_law_groups"] (spMU K a) := by
  have G_User_init : FnR P w K mg base (L2.CX P w) 5 _ _ := ok_made_U T
  have G_Chief_init : FnR P w K mg base (L2.CX P w) 5 _ _ := ok_made_C T
  refine T.fn__law_made_user.okX sc__law_made_user (fun vs H Q E h => ?_) (fun cdv A outer st H vs Q E hr h => ?_)
  · obtain ⟨_, _, _, _, rfl, _⟩ := h
    rfl
  · obtain ⟨g, x, xs, ch, rfl, hg, mb, le3, mk⟩ := h
    have hrm : Room (5 + 1) _ := hr
    refine ⟨_, (pss_cons (ps_if (pt_val (pv 0)) (pss_cons (ps_if (pt_cmpR op_lt (pe_callB call_len_seq (by rfl) T.b_len PySem.boot_len (pa_cons (pv 2) pa_nil)) pe_int (nomark _)) (pss_one (ps_ret (pe_ifExp (pt_cmpR (KV.op_eqNilL rfl hr.units) (pv 2) (pe_lst pa_nil) (nomark _)) (StX.pe_makeR T.mk_Chief G_Chief_init hrm rfl T.mg_Chief (passes_call (takes_of rfl rfl rfl rfl) fun _ _ _ _ h => h) (pa_cons (pv 1) pa_nil)) (StX.pe_makeR T.mk_Chief G_Chief_init hrm rfl T.mg_Chief (passes_call (takes_of rfl rfl rfl rfl) fun _ _ _ _ h => h) (pa_cons (pv 1) (pa_cons (pe_ix ix_list (pv 2) pe_int (fun _ _ => rfl)) pa_nil)))))) pss_nil)
    (pss_cons (ps_if (pt_cmpR op_eq (pe_callB call_len_seq (by rfl) T.b_len PySem.boot_len (pa_cons (pv 2) pa_nil)) pe_int (nomark _)) (pss_one (ps_ret (StX.pe_makeR T.mk_Chief G_Chief_init hrm rfl T.mg_Chief (passes_call (takes_of rfl rfl rfl rfl) fun _ _ _ _ h => h) (pa_cons (pv 1) (pa_cons (pe_ix ix_list (pv 2) pe_int (fun _ _ => rfl)) (pa_cons (pe_ix ix_list (pv 2) pe_int (fun _ _ => rfl)) pa_nil)))))) pss_nil)
    (pss_one (ps_ret (StX.pe_makeR T.mk_Chief G_Chief_init hrm rfl T.mg_Chief (passes_call (takes_of rfl rfl rfl rfl) fun _ _ _ _ h => h) (pa_cons (pv 1) (pa_cons (pe_ix ix_list (pv 2) pe_int (fun _ _ => rfl)) (pa_cons (pe_ix ix_list (pv 2) pe_int (fun _ _ => rfl)) (pa_cons (pe_ix ix_list (pv 2) pe_int (fun _ _ => rfl)) pa_nil))))))))) pss_nil)
    (pss_cons (ps_if (pt_cmpR op_lt (pe_callB call_len_seq (by rfl) T.b_len PySem.boot_len (pa_cons (pv 2) pa_nil)) pe_int (nomark _)) (pss_one (ps_ret (pe_ifExp (pt_cmpR (KV.op_eqNilL rfl hr.units) (pv 2) (pe_lst pa_nil) (nomark _)) (StX.pe_makeR T.mk_User G_User_init hrm rfl T.mg_User (passes_call (takes_of rfl rfl rfl rfl) fun _ _ _ _ h => h) (pa_cons (pv 1) pa_nil)) (StX.pe_makeR T.mk_User G_User_init hrm rfl T.mg_User (passes_call (takes_of rfl rfl rfl rfl) fun _ _ _ _ h => h) (pa_cons (pv 1) (pa_cons (pe_ix ix_list (pv 2) pe_int (fun _ _ => rfl)) pa_nil)))))) pss_nil)
    (pss_cons (ps_if (pt_cmpR op_eq (pe_callB call_len_seq (by rfl) T.b_len PySem.boot_len (pa_cons (pv 2) pa_nil)) pe_int (nomark _)) (pss_one (ps_ret (StX.pe_makeR T.mk_User G_User_init hrm rfl T.mg_User (passes_call (takes_of rfl rfl rfl rfl) fun _ _ _ _ h => h) (pa_cons (pv 1) (pa_cons (pe_ix ix_list (pv 2) pe_int (fun _ _ => rfl)) (pa_cons (pe_ix ix_list (pv 2) pe_int (fun _ _ => rfl)) pa_nil)))))) pss_nil)
    (pss_cons (ps_if (pt_cmpR op_eq (pe_callB call_len_seq (by rfl) T.b_len PySem.boot_len (pa_cons (pv 2) pa_nil)) pe_int (nomark _)) (pss_one (ps_ret (StX.pe_makeR T.mk_User G_User_init hrm rfl T.mg_User (passes_call (takes_of rfl rfl rfl rfl) fun _ _ _ _ h => h) (pa_cons (pv 1) (pa_cons (pe_ix ix_list (pv 2) pe_int (fun _ _ => rfl)) (pa_cons (pe_ix ix_list (pv 2) pe_int (fun _ _ => rfl)) (pa_cons (pe_ix ix_list (pv 2) pe_int (fun _ _ => rfl)) pa_nil))))))) pss_nil)
    (pss_one (ps_ret (StX.pe_makeR T.mk_User G_User_init hrm rfl T.mg_User (passes_call (takes_of rfl rfl rfl rfl) fun _ _ _ _ h => h) (pa_cons (pv 1) (pa_cons (pe_ix ix_list (pv 2) pe_int (fun _ _ => rfl)) (pa_cons (pe_ix ix_list (pv 2) pe_int (fun _ _ => rfl)) (pa_cons (pe_ix ix_list (pv 2) pe_int (fun _ _ => rfl)) (pa_cons (pe_ix ix_list (pv 2) pe_int (fun _ _ => rfl)) pa_nil)))))))))))), ?_⟩
    have le4 := mb.le
    cases ch
    case true =>
      refine q_when (b := true) (et_B (ev_var rfl)) (fun _ H1 e1 => ?_) fun z => nomatch z
      match xs, le4, le3, hg, mb, mk with
      | [], _, _, hg, mb, mk =>
        refine q_when (b := true) (et_is (et_test (ev_op (ev_lenS (K := K) (ev_var rfl) (sq_of (e1 _ _ hg))) ev_c rv_I0)) (by simp)) (fun _ H2 e2 => ?_) fun z => nomatch z
        exact ret_raw (if_rawB (b := true) (et_is (et_test (KV.ev_eqNilL (K := K) (neg := false) (ev_var rfl) ((e1.trans e2) _ _ hg) (el_lst (vs := []) ea_nil (by decide)))) (by simp)) (fun _ H3 e3 => em_user (x := x) (xs := []) (ch := true) (ea_cons (ev_var rfl) ea_nil) (mb.mono ((e1.trans e2).trans e3)) (mk.on ((e1.trans e2).trans e3)) rfl) (fun z => nomatch z))
      | [y0], _, _, hg, mb, mk =>
        refine q_when (b := true) (et_is (et_test (ev_op (ev_lenS (K := K) (ev_var rfl) (sq_of (e1 _ _ hg))) ev_c rv_I0)) (by simp)) (fun _ H2 e2 => ?_) fun z => nomatch z
        exact ret_raw (if_rawB (b := false) (et_is (et_test (KV.ev_eqNilL (K := K) (neg := false) (ev_var rfl) ((e1.trans e2) _ _ hg) (el_lst (vs := []) ea_nil (by decide)))) (by simp)) (fun z => nomatch z) (fun _ H3 e3 => em_user (x := x) (xs := [y0]) (ch := true) (ea_cons (ev_var rfl) (ea_cons (ev_ixl (K := K) (i := 0) (ev_var rfl) (((e1.trans e2).trans e3) _ _ hg) rfl) ea_nil)) (mb.mono ((e1.trans e2).trans e3)) (mk.on ((e1.trans e2).trans e3)) rfl))
      | [y0, y1], _, _, hg, mb, mk =>
        refine q_when (b := false) (et_is (et_test (ev_op (ev_lenS (K := K) (ev_var rfl) (sq_of (e1 _ _ hg))) ev_c rv_I0)) (by simp)) (fun z => nomatch z) fun _ H2 e2 => ?_
        refine q_when (b := true) (et_is (et_test (ev_op (ev_lenS (K := K) (ev_var rfl) (sq_of ((e1.trans e2) _ _ hg))) ev_c (rv_eq rfl))) (by simp)) (fun _ H3 e3 => ?_) fun z => nomatch z
        exact ret_raw (em_user (x := x) (xs := [y0, y1]) (ch := true) (ea_cons (ev_var rfl) (ea_cons (ev_ixl (K := K) (i := 0) (ev_var rfl) (((e1.trans e2).trans e3) _ _ hg) rfl) (ea_cons (ev_ixl (K := K) (i := 1) (ev_var rfl) (((e1.trans e2).trans e3) _ _ hg) rfl) ea_nil))) (mb.mono ((e1.trans e2).trans e3)) (mk.on ((e1.trans e2).trans e3)) rfl)
      | [y0, y1, y2], _, _, hg, mb, mk =>
        refine q_when (b := false) (et_is (et_test (ev_op (ev_lenS (K := K) (ev_var rfl) (sq_of (e1 _ _ hg))) ev_c rv_I0)) (by simp)) (fun z => nomatch z) fun _ H2 e2 => ?_
        refine q_when (b := false) (et_is (et_test (ev_op (ev_lenS (K := K) (ev_var rfl) (sq_of ((e1.trans e2) _ _ hg))) ev_c (rv_eq rfl))) (by simp)) (fun z => nomatch z) fun _ H3 e3 => ?_
        exact ret_raw (em_user (x := x) (xs := [y0, y1, y2]) (ch := true) (ea_cons (ev_var rfl) (ea_cons (ev_ixl (K := K) (i := 0) (ev_var rfl) (((e1.trans e2).trans e3) _ _ hg) rfl) (ea_cons (ev_ixl (K := K) (i := 1) (ev_var rfl) (((e1.trans e2).trans e3) _ _ hg) rfl) (ea_cons (ev_ixl (K := K) (i := 2) (ev_var rfl) (((e1.trans e2).trans e3) _ _ hg) rfl) ea_nil)))) (mb.mono ((e1.trans e2).trans e3)) (mk.on ((e1.trans e2).trans e3)) rfl)
      | [_, _, _, _], _, le3, _, _, _ => exact absurd (le3 rfl) (by simp)
      | _ :: _ :: _ :: _ :: _ :: _, le4, _, _, _, _ => exact absurd le4 (by simp)
    case false =>
      refine q_when (b := false) (et_B (ev_var rfl)) (fun z => nomatch z) fun _ H1 e1 => ?_
      match xs, le4, le3, hg, mb, mk with
      | [], _, _, hg, mb, mk =>
        refine q_when (b := true) (et_is (et_test (ev_op (ev_lenS (K := K) (ev_var rfl) (sq_of (e1 _ _ hg))) ev_c rv_I0)) (by simp)) (fun _ H2 e2 => ?_) fun z => nomatch z
        exact ret_raw (if_rawB (b := true) (et_is (et_test (KV.ev_eqNilL (K := K) (neg := false) (ev_var rfl) ((e1.trans e2) _ _ hg) (el_lst (vs := []) ea_nil (by decide)))) (by simp)) (fun _ H3 e3 => em_user (x := x) (xs := []) (ch := false) (ea_cons (ev_var rfl) ea_nil) (mb.mono ((e1.trans e2).trans e3)) (mk.on ((e1.trans e2).trans e3)) rfl) (fun z => nomatch z))
      | [y0], _, _, hg, mb, mk =>
        refine q_when (b := true) (et_is (et_test (ev_op (ev_lenS (K := K) (ev_var rfl) (sq_of (e1 _ _ hg))) ev_c rv_I0)) (by simp)) (fun _ H2 e2 => ?_) fun z => nomatch z
        exact ret_raw (if_rawB (b := false) (et_is (et_test (KV.ev_eqNilL (K := K) (neg := false) (ev_var rfl) ((e1.trans e2) _ _ hg) (el_lst (vs := []) ea_nil (by decide)))) (by simp)) (fun z => nomatch z) (fun _ H3 e3 => em_user (x := x) (xs := [y0]) (ch := false) (ea_cons (ev_var rfl) (ea_cons (ev_ixl (K := K) (i := 0) (ev_var rfl) (((e1.trans e2).trans e3) _ _ hg) rfl) ea_nil)) (mb.mono ((e1.trans e2).trans e3)) (mk.on ((e1.trans e2).trans e3)) rfl))
      | [y0, y1], _, _, hg, mb, mk =>
        refine q_when (b := false) (et_is (et_test (ev_op (ev_lenS (K := K) (ev_var rfl) (sq_of (e1 _ _ hg))) ev_c rv_I0)) (by simp)) (fun z => nomatch z) fun _ H2 e2 => ?_
        refine q_when (b := true) (et_is (et_test (ev_op (ev_lenS (K := K) (ev_var rfl) (sq_of ((e1.trans e2) _ _ hg))) ev_c (rv_eq rfl))) (by simp)) (fun _ H3 e3 => ?_) fun z => nomatch z
        exact ret_raw (em_user (x := x) (xs := [y0, y1]) (ch := false) (ea_cons (ev_var rfl) (ea_cons (ev_ixl (K := K) (i := 0) (ev_var rfl) (((e1.trans e2).trans e3) _ _ hg) rfl) (ea_cons (ev_ixl (K := K) (i := 1) (ev_var rfl) (((e1.trans e2).trans e3) _ _ hg) rfl) ea_nil))) (mb.mono ((e1.trans e2).trans e3)) (mk.on ((e1.trans e2).trans e3)) rfl)
      | [y0, y1, y2], _, _, hg, mb, mk =>
        refine q_when (b := false) (et_is (et_test (ev_op (ev_lenS (K := K) (ev_var rfl) (sq_of (e1 _ _ hg))) ev_c rv_I0)) (by simp)) (fun z => nomatch z) fun _ H2 e2 => ?_
        refine q_when (b := false) (et_is (et_test (ev_op (ev_lenS (K := K) (ev_var rfl) (sq_of ((e1.trans e2) _ _ hg))) ev_c (rv_eq rfl))) (by simp)) (fun z => nomatch z) fun _ H3 e3 => ?_
        refine q_when (b := true) (et_is (et_test (ev_op (ev_lenS (K := K) (ev_var rfl) (sq_of (((e1.trans e2).trans e3) _ _ hg))) ev_c (rv_eq rfl))) (by simp)) (fun _ H4 e4 => ?_) fun z => nomatch z
        exact ret_raw (em_user (x := x) (xs := [y0, y1, y2]) (ch := false) (ea_cons (ev_var rfl) (ea_cons (ev_ixl (K := K) (i := 0) (ev_var rfl) ((((e1.trans e2).trans e3).trans e4) _ _ hg) rfl) (ea_cons (ev_ixl (K := K) (i := 1) (ev_var rfl) ((((e1.trans e2).trans e3).trans e4) _ _ hg) rfl) (ea_cons (ev_ixl (K := K) (i := 2) (ev_var rfl) ((((e1.trans e2).trans e3).trans e4) _ _ hg) rfl) ea_nil)))) (mb.mono (((e1.trans e2).trans e3).trans e4)) (mk.on (((e1.trans e2).trans e3).trans e4)) rfl)
      | [y0, y1, y2, y3], _, _, hg, mb, mk =>
        refine q_when (b := false) (et_is (et_test (ev_op (ev_lenS (K := K) (ev_var rfl) (sq_of (e1 _ _ hg))) ev_c rv_I0)) (by simp)) (fun z => nomatch z) fun _ H2 e2 => ?_
        refine q_when (b := false) (et_is (et_test (ev_op (ev_lenS (K := K) (ev_var rfl) (sq_of ((e1.trans e2) _ _ hg))) ev_c (rv_eq rfl))) (by simp)) (fun z => nomatch z) fun _ H3 e3 => ?_
        refine q_when (b := false) (et_is (et_test (ev_op (ev_lenS (K := K) (ev_var rfl) (sq_of (((e1.trans e2).trans e3) _ _ hg))) ev_c (rv_eq rfl))) (by simp)) (fun z => nomatch z) fun _ H4 e4 => ?_
        exact ret_raw (em_user (x := x) (xs := [y0, y1, y2, y3]) (ch := false) (ea_cons (ev_var rfl) (ea_cons (ev_ixl (K := K) (i := 0) (ev_var rfl) ((((e1.trans e2).trans e3).trans e4) _ _ hg) rfl) (ea_cons (ev_ixl (K := K) (i := 1) (ev_var rfl) ((((e1.trans e2).trans e3).trans e4) _ _ hg) rfl) (ea_cons (ev_ixl (K := K) (i := 2) (ev_var rfl) ((((e1.trans e2).trans e3).trans e4) _ _ hg) rfl) (ea_cons (ev_ixl (K := K) (i := 3) (ev_var rfl) ((((e1.trans e2).trans e3).trans e4) _ _ hg) rfl) ea_nil))))) (mb.mono (((e1.trans e2).trans e3).trans e4)) (mk.on (((e1.trans e2).trans e3).trans e4)) rfl)
      | _ :: _ :: _ :: _ :: _ :: _, le4, _, _, _, _ => exact absurd le4 (by simp)
end
end KI
set_option Elab.async false
set_option linter.all false
set_option maxRecDepth 100000
set_option maxHeartbeats 4000000
namespace KI
open PySem PySem.Spec PyProof.Rows L2 Evl KF
local macro_rules | `(tactic| walk_at "ev") => `(tactic| repeat' (first | exact ev_c | exact ev_var rfl | exact rv_I0 | refine' rv_I ?_ | refine' rv_eq ?_ | refine' rv_ne ?_ | refine' ev_op ?_ ?_ ?_ | exact ea_nil | refine' ea_cons ?_ ?_ | refine' et_test ?_ | refine' et_B ?_ | refine' et_not ?_ | refine' ev_notV ?_))

open PySem KErr
section
variable {K : PySem.W.Frag} {σ : L2.St} {H : Hp} {te tc : TE} {D a0 dd : Addr} {fs : List (Str × V)} {c v : V} {cv : Value} {b : Bool} {f : Str}
theorem ev_isE (hv : Ev te σ H (.ref a0)) (hc : Ev tc σ H c) (rel : ∀ u, RelV c u → u = cv) (hE : ErrAt H a0 D dd fs) (e : PySem.W.kitOne K (.ref D) cv = some b) : Ev (tCB (rIsE K D) (tCons te (tCons tc tNil))) σ H (.bl b) := fun H1 e1 Q q =>
  hv H1 e1 _ fun H2 e2 => hc H2 (e1.trans e2) _ fun H3 e3 => ⟨a0, dd, fs, c, cv, b, rfl, rel, hE.mono ((e1.trans e2).trans e3), e, q H3 (e2.trans e3)⟩
theorem ev_errF (hv : Ev te σ H (.ref a0)) (hE : ErrAt H a0 D dd fs) (l : fs.lookup f = some v) : Ev (tErrF D f te) σ H v := fun H1 e1 Q q => hv H1 e1 _ fun H2 e2 => ⟨a0, dd, fs, v, rfl, hE.mono (e1.trans e2), l, q H2 e2⟩
end
/-- what a refusal tells -/
def PartX (a : Ads) (Q : VK) : XK := fun cls d H' => cls = .ref a.x_BadUser ∧ ∃ (dd : Addr) (s : Str), d = some dd ∧ H' dd = some (.xd [(("part" : Str), .str s)]) ∧ ∀ H'', Ex H' H'' → Q (.str s) H''
def spLH (K : PySem.W.Frag) (a : Ads) : Sp := fun vs H Q E => ∃ (g : Addr) (x : V) (xs : List V) (ch : Bool), vs = [.bl ch, x, .ref g] ∧ H g = some (.lst xs) ∧ MayBe K H x xs ∧ (ch = true → xs.length ≤ 3) ∧ ∀ H', Ex H H' → Q (pV (partOf x xs)) H'
section
variable {P : Program} {w : World} {K : PySem.W.Frag} {mg : Str → Option Value} {base : Heap} {a : Ads}
theorem ok_lh (T : Txt P w K mg a) : FnOk P w K mg base CX0 8 a.f__law_heard a.d__law_heard ["_law_is_chief", "_law_name", "_law_groups"] (spLH K a) := by
  have G__law_made_user : FnOk P w K mg base (L2.CX P w) 7 _ _ _ _ := ok_mu T
  refine T.fn__law_heard.ok sc__law_heard (fun vs H Q E h => ?_) (fun cdv A outer s H vs Q E hr h => ?_)
  · obtain ⟨_, _, _, _, rfl, _⟩ := h
    rfl
  · obtain ⟨g, x, xs, ch, rfl, hg, mb, le3, k⟩ := h
    have hrc : Room 7 _ := hr
    refine ⟨_, pss_cons (ps_set (i := 3) sc__law_heard.nd rfl (Or.inl rfl) pe_non) (pss_cons (ps_try_keep (X := (cxOf CX0 P w K mg base n__law_heard "_law_heard" (defScope s__law_heard) a.f__law_heard cdv A outer s H E).nox) (c := .ref a.x_ModesError) (i := 4)
      (tb := fun W D σ H => ∃ Ech : XK, (∀ cls d σ' H', Ech cls d H' → σ'.length = 6 → W cls d σ' H') ∧ tDrop (tCall (spMU K a) [] Ech (tCons (tVar 0) (tCons (tVar 1) (tCons (tVar 2) tNil)))) D σ H)
      (ts := fun _ _ _ => tAsg (tVar 4) (gName 3))
      rfl rfl rfl sc__law_heard.nd rfl rfl ⟨rfl, by decide, .inl T.mg_ModesError⟩ (fun W pn xe tk _ => ?body) (fun a0 oe cls d pn hz hf => pss_one (ps_set (i := 3) sc__law_heard.nd rfl (Or.inl rfl) (pv 4)))) (pss_cons (ps_if (pt_cmpR op_isN (pv 3) pe_non (nomark _)) (pss_one (ps_ret pe_non)) pss_nil)
    (pss_cons (ps_set (i := 5) sc__law_heard.nd rfl (Or.inl rfl) (pe_and (pe_callB (call_isE T.ec_BadUser (cl_of T.ec_BadUser)) (by rfl) T.b_isinstance PyProof.Rows.boot_isinstance (pa_cons (pv 3) (pa_cons (pe_glob (v := .ref a.x_BadUser) rfl T.mg_BadUser rfl) pa_nil))) (pe_and (pe_callB (call_isE T.ec_BadUser (cl_of T.ec_BadUser)) (by rfl) T.b_isinstance PyProof.Rows.boot_isinstance (pa_cons (pv 3) (pa_cons (pe_glob (v := .ref a.x_BadInput) rfl T.mg_BadInput rfl) pa_nil))) (pe_one (pe_callB (call_isE T.ec_BadUser (cl_of T.ec_BadUser)) (by rfl) T.b_isinstance PyProof.Rows.boot_isinstance (pa_cons (pv 3) (pa_cons (pe_bltn (v := .ty "ValueError") (by rfl) T.b_ValueError (by decide +kernel) rfl) pa_nil)))))))
    (pss_one (ps_ret (pe_ifExp (pt_val (pv 5)) (pe_errF T.ec_BadUser T.np_BadUser (pv 3)) pe_str)))))), ?reading⟩
    case body =>
      refine ⟨fun pins s' σ H' D I h' => ?_⟩
      obtain ⟨Ech, hW, h1⟩ := h'
      refine PSs.run (t := tDrop (tCall (spMU K a) [] Ech (tCons (tVar 0) (tCons (tVar 1) (tCons (tVar 2) tNil))))) ?_ pins s' σ H' D I h1
      exact pss_one (ps_expr (pe_call G__law_made_user hrc rfl T.mg__law_made_user T.fn__law_made_user.kp (bd__law_made_user T) .nil (passes_call (takes_len tk) (fun cls d σ' H' e => hW cls d σ' H' e)) (pa_cons (pv 0) (pa_cons (pv 1) (pa_cons (pv 2) pa_nil)))))
    case reading =>
      refine q_asgRaw ?_
      refine ⟨PartX a Q, fun cls d σ' H' hx len => ?_, ?_⟩
      · obtain ⟨hcls, dd, s, hd, hxd, kk⟩ := hx
        refine ⟨by rw [hcls]; exact T.em_BadUser, fun a0 oe ha0 hz hf => ?_⟩
        match σ', len with
        | [y0, y1, y2, y3, y4, y5], _ =>
          refine ⟨.ref a0, rfl, ?_⟩
          have hE : ErrAt (upd H' a0 (errO a0 oe)) a0 a.x_BadUser dd [(("part" : Str), .str s)] := ⟨oe, upd_same, by rw [hz.1, hcls], by rw [hz.2, hd], hf, by rw [upd_ne (ne_of_none hxd ha0)]; exact hxd⟩
          refine q_when (b := false) (et_is (et_test (ev_op (ev_var (v := .ref a0) rfl) ev_c rv_isN)) (decide_eq_false (fun z => nomatch z))) (fun z => nomatch z) fun _ H2 e2 => ?_
          refine q_asg (v := .bl true) (ev_andV (a := true) (b := true) (ev_isE (K := K) (ev_var rfl) ev_c (fun u r => r) (hE.mono e2) T.ks_BadUser) fun _ => ev_andV (a := true) (b := true) (ev_isE (K := K) (ev_var rfl) ev_c (fun u r => r) (hE.mono e2) T.ks_BadInput) fun _ => ev_isE (K := K) (ev_var rfl) ev_c (fun u r => r) (hE.mono e2) T.ks_ValueError) fun H3 e3 => ?_
          refine s_ret (v := .str s) (ev_if (b := true) (et_B (ev_var rfl)) (fun _ => ev_errF (ev_var rfl) (hE.mono (e2.trans e3)) (by simp [List.lookup])) fun z => nomatch z) fun H4 e4 => kk H4 ((((Ex.new ha0).trans e2).trans e3).trans e4)
      · refine ⟨_, rfl, _, rfl, _, rfl, g, x, xs, ch, rfl, hg, mb, le3, fun pn nm gs b H1 ex eg hb e1 hu => ?_, fun s ps d H1 hd e1 h1 => ⟨rfl, d, s, rfl, h1, fun H2 e2 => ?_⟩⟩
        · refine q_when (b := true) (et_is (et_test (ev_op (ev_var (v := .non) rfl) ev_c rv_isN)) rfl) (fun _ H2 e2 => ?_) (fun z => nomatch z)
          refine s_ret (v := .non) ev_c fun H3 e3 => ?_
          have := k H3 ((e1.trans e2).trans e3)
          rw [pn] at this
          exact this
        · have := k H2 (e1.trans e2)
          rw [ps] at this
          exact this
end
end KI
set_option Elab.async false
set_option linter.all false
set_option maxRecDepth 100000
set_option maxHeartbeats 4000000
namespace KI
open PySem PySem.Spec PyProof.Rows L2 Evl KF
local macro_rules | `(tactic| walk_at "ev") => `(tactic| repeat' (first | exact ev_c | exact ev_var rfl | exact rv_I0 | refine' rv_I ?_ | refine' rv_eq ?_ | refine' rv_ne ?_ | refine' ev_op ?_ ?_ ?_ | exact ea_nil | refine' ea_cons ?_ ?_ | refine' et_test ?_ | refine' et_B ?_ | refine' et_not ?_ | refine' ev_notV ?_))

open PySem
/-! ### users that the law makes, and looks at -/
structure UOk (nm : Str) (gs : List Str) : Prop where
  name : nmS nm = true
  le : gs.length ≤ 2
  all : ∀ s ∈ gs, nmS s = true
  nd : gs.Nodup
theorem nmS_sz {s : Str} (h : nmS s = true) : s.cps.size ≤ 8 := by
  unfold nmS at h
  simp only [Bool.and_eq_true, decide_eq_true_eq] at h
  exact h.1.2
theorem nmS_ok {s : Str} (h : nmS s = true) : PyData.strOk s = true := by
  unfold nmS at h
  simp only [Bool.and_eq_true, decide_eq_true_eq] at h
  have all : ∀ c ∈ lettersS.cps.toList, c < 0x110000 := by decide +kernel
  unfold PyData.strOk
  rw [Array.all_eq_true_iff_forall_mem]
  intro c hc
  exact decide_eq_true (all c (of_decide_eq_true (List.all_eq_true.mp h.2 c (Array.mem_toList_iff.mpr hc))))
theorem UOk.part {nm : Str} {gs : List Str} (h : UOk nm gs) : partOf (.str nm) (gs.map V.str) = none :=
  part_none h.name (gsOk_all rfl (by rw [List.length_map]; exact h.le) (fun x hx => by obtain ⟨s, hs, rfl⟩ := List.mem_map.mp hx; exact h.all s hs) h.nd)
theorem UOk.may {nm : Str} {gs : List Str} (h : UOk nm gs) {K : PySem.W.Frag} {H : Hp} : MayBe K H (.str nm) (gs.map V.str) :=
  ⟨by rw [List.length_map]; exact Nat.le_trans h.le (by decide), .inl ⟨nm, rfl, Nat.le_trans (nmS_sz h.name) (by decide)⟩, fun y hy => by obtain ⟨s, hs, rfl⟩ := List.mem_map.mp hy; exact .inl ⟨s, rfl, Nat.le_trans (nmS_sz (h.all s hs)) (by decide)⟩⟩
theorem UOk.good {nm : Str} {gs : List Str} (h : UOk nm gs) : GoodS gs := ⟨Nat.le_trans h.le (by decide), fun s hs => nmS_ok (h.all s hs)⟩
theorem map_inj : ∀ {a b : List Str}, a.map V.str = b.map V.str → a = b
  | [], [], _ => rfl
  | [], _ :: _, h => nomatch h
  | _ :: _, [], h => nomatch h
  | x :: a, y :: b, h => by
    injection h with h1 h2
    injection h1 with h1
    rw [h1, map_inj h2]
/-- a list of texts, new or old -/
def EvZ (te : TE) (σ : L2.St) (H : Hp) (gs : List Str) : Prop := ∀ H1, Ex H H1 → ∀ Q : VK, (∀ g H2, Ex H1 H2 → H2 g = some (.lst (gs.map V.str)) → Q (.ref g) H2) → te σ H1 Q
/-- a new user -/
def EvN (te : TE) (σ : L2.St) (H : Hp) (C : Addr) (nm : Str) (gs : List Str) : Prop := ∀ H1, Ex H H1 → ∀ Q : VK, (∀ b H2, H1 b = none → Ex H1 H2 → UserAt H2 b C nm gs → Q (.ref b) H2) → te σ H1 Q
/-- what a user may be compared with -/
def EvY (K : PySem.W.Frag) (a : Ads) (C : Addr) (nm : Str) (gs : List Str) (r : Bool) (te : TE) (σ : L2.St) (H : Hp) : Prop := ∀ H1, Ex H H1 → ∀ Q : VK, (∀ y H2, Ex H1 H2 → EqCase K a H2 C nm gs y r → (∃ t, TyX K H2 y t ∧ PySem.W.notFirst K C t = true) → Q y H2) → te σ H1 Q
section
variable {σ : L2.St} {K : PySem.W.Frag} {H : Hp} {te ta tb t1 t2 t3 : TE} {a : Ads} {C b c g : Addr} {nm nm2 : Str} {gs gs2 : List Str} {ch r : Bool} {E E1 E2 : XK} {v : V} {i : Nat} {xs ys : List V} {tt : TT}
theorem ez_of (h : Ev te σ H (.ref g)) (hg : H g = some (.lst (gs.map V.str))) : EvZ te σ H gs := fun H1 e Q q => h H1 e _ fun H2 e2 => q g H2 e2 ((e.trans e2) _ _ hg)
theorem ez_rev (h : Ev te σ H (.ref g)) (hg : H g = some (.lst (gs.map V.str))) : EvZ (tRevL K te) σ H gs.reverse := fun H1 e Q q => h H1 e _ fun H2 e2 => ⟨g, _, rfl, sq_of ((e.trans e2) _ _ hg), fun l hl => q l _ (e2.trans (Ex.new hl)) (by rw [upd_same, List.map_reverse])⟩
theorem en_mu (h1 : Ev t1 σ H (.bl ch)) (h2 : Ev t2 σ H (.str nm)) (h3 : EvZ t3 σ H gs) (ok : UOk nm gs) : EvN (tCall (spMU K a) [] E (tCons t1 (tCons t2 (tCons t3 tNil)))) σ H (clsA a ch) nm gs := fun H1 e Q q =>
  h1 H1 e _ fun H2 e2 => h2 H2 (e.trans e2) _ fun H3 e3 => h3 H3 ((e.trans e2).trans e3) _ fun g H4 e4 hg => by
    have x := (e2.trans e3).trans e4
    refine ⟨g, .str nm, gs.map V.str, ch, rfl, hg, ok.may, fun _ => by rw [List.length_map]; exact Nat.le_trans ok.le (by decide), fun _ nm' gs' b H5 en eg hb e5 hu => ?_, fun s ps => ?_⟩
    · cases en
      obtain rfl := map_inj eg
      exact q b H5 (fresh_back x hb) (x.trans e5) hu
    · rw [ok.part] at ps
      cases ps
theorem ev_l (h : Ev ta σ H v) : Ev (fun σ H Q => ta σ H Q ∨ tb σ H Q) σ H v := fun H1 e Q q => .inl (h H1 e Q q)
theorem ev_r (h : Ev tb σ H v) : Ev (fun σ H Q => ta σ H Q ∨ tb σ H Q) σ H v := fun H1 e Q q => .inr (h H1 e Q q)
theorem pe_or {X : Cx} {e : Expr} {t1 t2 : TE} (h1 : PE X e t1) (h2 : PE X e t2) : PE X e (fun σ H Q => t1 σ H Q ∨ t2 σ H Q) := ⟨fun pins s σ H Q I h => h.elim (h1.run pins s σ H Q I) (h2.run pins s σ H Q I)⟩
theorem isu_cls : IsU a (clsA a ch) := by
  cases ch
  · exact .inl rfl
  · exact .inr rfl
theorem ne_own (h1 : Ev ta σ H (.ref b)) (hu : UserAt H b C nm gs) (isu : IsU a C) (g1 : GoodS gs) (h2 : EvN tb σ H C nm2 gs2) (g2 : GoodS gs2) : Ev (tOp (rOwnNe C (spEqU K a) E) ta tb) σ H (.bl (!eqU C C nm nm2 gs gs2)) := fun H1 e Q q =>
  h1 H1 e _ fun H2 e2 => h2 H2 (e.trans e2) _ fun c H3 hc e3 hu3 => by
    have hu' := hu.mono ((e.trans e2).trans e3)
    obtain ⟨dx, t, hb, _⟩ := id hu'
    obtain ⟨dy, u, hc2, _⟩ := id hu3
    exact ⟨b, dx, _, c, dy, _, rfl, rfl, hb, hc2, b, C, nm, gs, .ref c, _, rfl, isu, hu', g1, .inl ⟨c, C, nm2, gs2, rfl, isu, hu3, g2, rfl⟩, fun H4 e4 => ⟨_, rfl, q H4 ((e2.trans e3).trans e4)⟩⟩
theorem eq_own (h1 : Ev ta σ H (.ref b)) (hu : UserAt H b C nm gs) (isu : IsU a C) (g1 : GoodS gs) (h2 : EvY K a C nm gs r tb σ H) : Ev (tOp (KD.rOwnB K C (spEqU K a) E) ta tb) σ H (.bl r) := fun H1 e Q q =>
  h1 H1 e _ fun H2 e2 => h2 H2 (e.trans e2) _ fun y H3 e3 cs ⟨t, ty, nf⟩ => by
    have hu' := hu.mono ((e.trans e2).trans e3)
    obtain ⟨dx, _, hb, _⟩ := id hu'
    exact ⟨b, dx, _, t, rfl, hb, ty, nf, b, C, nm, gs, y, r, rfl, isu, hu', g1, cs, fun H4 e4 => q H4 ((e2.trans e3).trans e4)⟩
theorem eq_ref {C2 : Addr} (h1 : Ev ta σ H (.ref b)) (h2 : Ev tb σ H (.ref c)) (hu : UserAt H b C nm gs) (isu : IsU a C) (g1 : GoodS gs) (hu2 : UserAt H c C2 nm2 gs2) (isu2 : IsU a C2) (g2 : GoodS gs2) : Ev (tOp (KV.rOwnRF C C2 (spEqU K a) E) ta tb) σ H (.bl (eqU C2 C nm2 nm gs2 gs)) := fun H1 e Q q =>
  h1 H1 e _ fun H2 e2 => h2 H2 (e.trans e2) _ fun H3 e3 => by
    have x := (e.trans e2).trans e3
    have u1 := hu.mono x
    have u2 := hu2.mono x
    obtain ⟨dx, _, hb, _⟩ := id u1
    obtain ⟨dy, _, hc, _⟩ := id u2
    exact ⟨b, dx, _, c, dy, _, rfl, rfl, hb, hc, c, C2, nm2, gs2, .ref b, _, rfl, isu2, u2, g2, .inl ⟨b, C, nm, gs, rfl, isu, u1, g1, rfl⟩, fun H4 e4 => ⟨_, rfl, q H4 ((e2.trans e3).trans e4)⟩⟩
theorem el_catN (ha : Ev ta σ H (.ref g)) (hq : H g = some (.lst xs)) (hb : EvL tb σ H ys) (hz : xs.length + ys.length ≤ 100000) : EvL (tOp rCat ta tb) σ H (xs ++ ys) := fun H1 e Q k =>
  ha H1 e _ fun H2 e2 => hb H2 (e.trans e2) _ fun p H3 _ e3 h3 => ⟨g, p, xs, ys, rfl, rfl, ((e.trans e2).trans e3) _ _ hq, h3, sz_of hz, fun l hl => k l _ (fresh_back (e2.trans e3) hl) ((e2.trans e3).trans (Ex.new hl)) upd_same⟩
theorem el_if {b : Bool} (h : EvT tt σ H b) (h1 : b = true → EvL ta σ H xs) (h2 : b = false → EvL tb σ H xs) : EvL (tIf tt ta tb) σ H xs := fun H1 e Q q => h H1 e _ fun H2 e2 => by
  cases b with
  | true => exact h1 rfl H2 (e.trans e2) Q fun p H3 hp e3 h3 => q p H3 (fresh_back e2 hp) (e2.trans e3) h3
  | false => exact h2 rfl H2 (e.trans e2) Q fun p H3 hp e3 h3 => q p H3 (fresh_back e2 hp) (e2.trans e3) h3
theorem ey_tup (h1 : Ev t1 σ H v) (h2 : EvX t2 σ H xs) (nf : PySem.W.notFirst K C (.type "tuple") = true) : EvY K a C nm gs false (tTup (tCons t1 (tCons t2 tNil))) σ H := fun H1 e Q q =>
  h1 H1 e _ fun H2 e2 => h2 H2 (e.trans e2) _ fun p H3 e3 hp => ⟨by show 2 ≤ sizeLine; decide, fun l hl => q _ _ ((e2.trans e3).trans (Ex.new hl)) (.inr ⟨rfl, "tuple", by simp, fun H4 e4 => .base (.tup (e4 _ _ upd_same))⟩) ⟨_, .base (.tup upd_same), nf⟩⟩
theorem ey_str {s : Str} (h : Ev te σ H (.str s)) (nf : PySem.W.notFirst K C (.type "str") = true) : EvY K a C nm gs false te σ H := fun H1 e Q q => h H1 e _ fun H2 e2 => q _ H2 e2 (.inr ⟨rfl, "str", by simp, fun _ _ => .base (.str _)⟩) ⟨_, .base (.str _), nf⟩
end
section
variable {P : Program} {w : World} {mg : Str → Option Value} {σ : L2.St} {K : PySem.W.Frag} {H : Hp} {te ta tb t1 t2 t3 : TE} {a : Ads} {C b c g : Addr} {nm nm2 : Str} {gs gs2 : List Str} {ch r : Bool} {E E1 E2 : XK}
theorem ey_new (T : Txt P w K mg a) (h : EvN te σ H C nm2 gs2) (isu : IsU a C) (g2 : GoodS gs2) : EvY K a C nm gs (eqU C C nm nm2 gs gs2) te σ H := fun H1 e Q q => h H1 e _ fun c H2 hc e2 hu => q _ H2 e2 (.inl ⟨c, C, nm2, gs2, rfl, isu, hu, g2, rfl⟩) ⟨_, isu.tyx T hu, KV.notFirst_self⟩
theorem ey_var (T : Txt P w K mg a) {C2 : Addr} (h : Ev te σ H (.ref c)) (hu : UserAt H c C2 nm2 gs2) (isu : IsU a C2) (g2 : GoodS gs2) (nf : PySem.W.notFirst K C (.ref C2) = true) : EvY K a C nm gs (eqU C C2 nm nm2 gs gs2) te σ H := fun H1 e Q q => h H1 e _ fun H2 e2 => q _ H2 e2 (.inl ⟨c, C2, nm2, gs2, rfl, isu, hu.mono (e.trans e2), g2, rfl⟩) ⟨_, isu.tyx T (hu.mono (e.trans e2)), nf⟩
/-- != of a user and one made of its class -/
theorem ev_ne2 (h1 : Ev ta σ H (.ref b)) (hu : UserAt H b (clsA a ch) nm gs) (g1 : GoodS gs) (h2 : EvN tb σ H (clsA a ch) nm2 gs2) (g2 : GoodS gs2) : Ev (fun σ H Q => tOp (rOwnNe a.f_User (spEqU K a) E1) ta tb σ H Q ∨ tOp (rOwnNe a.f_Chief (spEqU K a) E2) ta tb σ H Q) σ H (.bl (!eqU (clsA a ch) (clsA a ch) nm nm2 gs gs2)) := by
  cases ch
  · exact ev_l (ne_own h1 hu (.inl rfl) g1 h2 g2)
  · exact ev_r (ne_own h1 hu (.inr rfl) g1 h2 g2)
theorem ev_eq2 (h1 : Ev ta σ H (.ref b)) (hu : UserAt H b (clsA a ch) nm gs) (g1 : GoodS gs) (h2 : EvY K a (clsA a ch) nm gs r tb σ H) : Ev (fun σ H Q => tOp (KD.rOwnB K a.f_User (spEqU K a) E1) ta tb σ H Q ∨ tOp (KD.rOwnB K a.f_Chief (spEqU K a) E2) ta tb σ H Q) σ H (.bl r) := by
  cases ch
  · exact ev_l (eq_own h1 hu (.inl rfl) g1 h2)
  · exact ev_r (eq_own h1 hu (.inr rfl) g1 h2)
/-- == of a user and a chief -/
theorem ev_eqO (T : Txt P w K mg a) (h1 : Ev ta σ H (.ref b)) (h2 : Ev tb σ H (.ref c)) (hu : UserAt H b (clsA a ch) nm gs) (g1 : GoodS gs) (hu2 : UserAt H c (clsA a (!ch)) nm2 gs2) (g2 : GoodS gs2) : Ev (fun σ H Q => tOp (KV.rOwnRF a.f_User a.f_Chief (spEqU K a) E1) ta tb σ H Q ∨ tOp (KD.rOwnB K a.f_Chief (spEqU K a) E2) ta tb σ H Q) σ H (.bl false) := by
  have n := T.ne_User_Chief
  cases ch
  · exact ev_l (ev_is (eq_ref h1 h2 hu (.inl rfl) g1 hu2 (.inr rfl) g2) (by show V.bl (eqU a.f_Chief a.f_User _ _ _ _) = _; unfold eqU; rw [decide_eq_false (Ne.symm n), Bool.false_and]))
  · exact ev_r (ev_is (eq_own h1 hu (.inr rfl) g1 (ey_var T h2 hu2 (.inl rfl) g2 T.nf_Chief_User)) (by show V.bl (eqU a.f_Chief a.f_User _ _ _ _) = _; unfold eqU; rw [decide_eq_false (Ne.symm n), Bool.false_and]))
theorem ev_get2 {f : Str} {v : V} (h : Ev ta σ H (.ref b)) (hu : UserAt H b (clsA a ch) nm gs) (l : ∀ t, H t = some (.tup (gs.map V.str)) → (usFs nm t).lookup f = some v) : Ev (fun σ H Q => tProp a.f_User (getSp a.f_User f) [] E1 ta σ H Q ∨ tProp a.f_Chief (getSp a.f_Chief f) [] E2 ta σ H Q) σ H v := by
  obtain ⟨dx, t, hb, ht⟩ := hu
  cases ch
  · exact ev_l (ev_prop h hb (spv_get hb (l t ht)))
  · exact ev_r (ev_prop h hb (spv_get hb (l t ht)))
theorem ew_get2 (h : Ev ta σ H (.ref b)) (hu : UserAt H b (clsA a ch) nm gs) : EvX (fun σ H Q => tProp a.f_User (getSp a.f_User "_groups") [] E1 ta σ H Q ∨ tProp a.f_Chief (getSp a.f_Chief "_groups") [] E2 ta σ H Q) σ H (gs.map V.str) := by
  obtain ⟨dx, t, hb, ht⟩ := hu
  cases ch
  · exact ew_of (ev_l (ev_prop h hb (spv_get hb (fs_groups nm t)))) ht
  · exact ew_of (ev_r (ev_prop h hb (spv_get hb (fs_groups nm t)))) ht
end
/-! [name, groups], shown -/
def dU (nm : Str) (gs : List Str) : PyData := .list [.str nm, .tuple (gs.map PyData.str)]
theorem dU_fits {nm : Str} {gs : List Str} (ok : UOk nm gs) : (dU nm gs).showable = true ∧ (dU nm gs).hasDict = false ∧ (dU nm gs).depth ≤ 60 ∧ (dU nm gs).shown.length ≤ sizeLine := by
  have o := ok.name
  have z := nmS_sz ok.name
  match gs, ok.le, ok.all with
  | [], _, _ =>
    refine ⟨rfl, rfl, by simp [dU, PyData.depth, PyData.depthAll], PyData.shown_fits_of_layable0 (B := 13) (by decide) (by decide) ?_ rfl⟩
    simp [PyData.layable0, dU, PyData.canLay0, PyData.canLayAll0, PyData.depth, PyData.depthAll, PyData.weight, PyData.weightAll, nmS_ok o]
    omega
  | [x], _, all =>
    have ox := all x (by simp)
    have zx := nmS_sz ox
    refine ⟨rfl, rfl, by simp [dU, PyData.depth, PyData.depthAll], PyData.shown_fits_of_layable0 (B := 13) (by decide) (by decide) ?_ rfl⟩
    simp [PyData.layable0, dU, PyData.canLay0, PyData.canLayAll0, PyData.depth, PyData.depthAll, PyData.weight, PyData.weightAll, nmS_ok o, nmS_ok ox]
    omega
  | [x, y], _, all =>
    have ox := all x (by simp)
    have oy := all y (by simp)
    have zx := nmS_sz ox
    have zy := nmS_sz oy
    refine ⟨rfl, rfl, by simp [dU, PyData.depth, PyData.depthAll], PyData.shown_fits_of_layable0 (B := 13) (by decide) (by decide) ?_ rfl⟩
    simp [PyData.layable0, dU, PyData.canLay0, PyData.canLayAll0, PyData.depth, PyData.depthAll, PyData.weight, PyData.weightAll, nmS_ok o, nmS_ok ox, nmS_ok oy]
    omega
  | _ :: _ :: _ :: _, h, _ => simp at h
theorem ev_reprU {σ : L2.St} {K : PySem.W.Frag} {H : Hp} {t1 t2 : TE} {nm : Str} {gs : List Str} (ok : UOk nm gs) (h1 : Ev t1 σ H (.str nm)) (h2 : EvX t2 σ H (gs.map V.str)) : Ev (tCB (KD.rReprV K) (tCons (tLst (tCons t1 (tCons t2 tNil))) tNil)) σ H (.str (dU nm gs).shown) := fun H1 e Q q =>
  h1 H1 e _ fun H2 e2 => h2 H2 (e.trans e2) _ fun p H3 e3 hp => ⟨by show 2 ≤ sizeLine; decide, fun l hl => by
    obtain ⟨f1, f2, f3, f4⟩ := dU_fits ok
    have en := Ex.new hl (o := .lst [.str nm, .ref p])
    exact ⟨.ref l, _, rfl, .obj (.lst (sq_of upd_same) (.cons (.str _) (.cons (.tup (st_of (en _ _ hp)) (KV.dp_strs gs)) .nil))) f1 f2 f3 f4, q _ ((e2.trans e3).trans en)⟩⟩
end KI
set_option Elab.async false
set_option linter.all false
set_option maxRecDepth 100000
set_option maxHeartbeats 4000000
namespace KI
open PySem PySem.Spec PyProof.Rows L2 Evl KF
local macro_rules | `(tactic| walk_at "ev") => `(tactic| repeat' (first | exact ev_c | exact ev_var rfl | exact rv_I0 | refine' rv_I ?_ | refine' rv_eq ?_ | refine' rv_ne ?_ | refine' ev_op ?_ ?_ ?_ | exact ea_nil | refine' ea_cons ?_ ?_ | refine' et_test ?_ | refine' et_B ?_ | refine' et_not ?_ | refine' ev_notV ?_))

open PySem
section
variable {σ : L2.St} {K : PySem.W.Frag} {H : Hp} {te : TE} {g : Addr} {xs : List V}
theorem pt_or {X : Cx} {e : Expr} {t1 t2 : TT} (h1 : PT X e t1) (h2 : PT X e t2) : PT X e (fun σ H Q => t1 σ H Q ∨ t2 σ H Q) := ⟨fun pins s σ H Q I h => h.elim (h1.run pins s σ H Q I) (h2.run pins s σ H Q I)⟩
theorem et_or2 {t1 t2 : TE} {b : Bool} (h : Ev (fun σ H Q => t1 σ H Q ∨ t2 σ H Q) σ H (.bl b)) : EvT (fun σ H Q => tTest t1 σ H Q ∨ tTest t2 σ H Q) σ H b := fun H1 e Q q => h H1 e _ fun H2 e2 => ⟨b, rfl, q H2 e2⟩
/-- tuple(a list) -/
theorem eu_tupleL (h : Ev te σ H (.ref g)) (hg : H g = some (.lst xs)) : EvU (tCB (fun xs H Q => ∃ p ys, xs = [.ref p] ∧ ((SqL K H p ys ∧ ∀ l, H l = none → Q (.ref l) (upd H l (.tup ys))) ∨ (SqT K H p ys ∧ Q (.ref p) H))) (tCons te tNil)) σ H xs := fun H1 e Q q =>
  h H1 e _ fun H2 e2 => ⟨g, xs, rfl, .inl ⟨sq_of ((e.trans e2) _ _ hg), fun l hl => q l _ (fresh_back e2 hl) (e2.trans (Ex.new hl)) upd_same⟩⟩
end
def spLR (K : PySem.W.Frag) (a : Ads) : Sp := fun vs H Q _ => ∃ (g : Addr) (nm : Str) (gs : List Str) (ch : Bool), vs = [.bl ch, .str nm, .ref g] ∧ H g = some (.lst (gs.map V.str)) ∧ UOk nm gs ∧ ∀ H', Ex H H' → Q (.bl true) H'
def freshS (nm : Str) : Str := if nm = "a" then "b" else "a"
def moreS (gs : List Str) : Str := if ("zz" : Str) ∈ gs then "yy" else "zz"
def moreL (gs : List Str) : List Str := if gs.length = 2 then [] else gs ++ [moreS gs]
theorem fresh_ok {nm : Str} {gs : List Str} (h : UOk nm gs) : UOk (freshS nm) gs ∧ decide (nm = freshS nm) = false := by
  unfold freshS
  by_cases e : nm = "a"
  · rw [if_pos e]
    exact ⟨⟨by decide +kernel, h.le, h.all, h.nd⟩, by rw [e]; decide +kernel⟩
  · rw [if_neg e]
    exact ⟨⟨by decide +kernel, h.le, h.all, h.nd⟩, decide_eq_false e⟩
theorem more_ok {nm : Str} {gs : List Str} (h : UOk nm gs) : UOk nm (moreL gs) ∧ gs.isPerm (moreL gs) = false := by
  have le := h.le
  have nin : moreS gs ∉ gs ∨ gs.length = 2 := by
    unfold moreS
    by_cases z : ("zz" : Str) ∈ gs
    · rw [if_pos z]
      match gs, le, z with
      | [x], _, z =>
        refine .inl fun y => ?_
        have e1 := List.mem_singleton.mp z
        have e2 := List.mem_singleton.mp y
        rw [← e1] at e2
        exact absurd e2 (by decide +kernel)
      | [_, _], _, _ => exact .inr rfl
      | _ :: _ :: _ :: _, h, _ => simp at h
    · rw [if_neg z]
      exact .inl z
  have mk : nmS (moreS gs) = true := by
    unfold moreS
    split <;> decide +kernel
  have len : gs.length ≠ (moreL gs).length := by
    unfold moreL
    by_cases e : gs.length = 2
    · rw [if_pos e, e]
      decide
    · rw [if_neg e, List.length_append]
      simp
  refine ⟨⟨h.name, ?_, ?_, ?_⟩, Bool.eq_false_iff.mpr fun z => len (List.isPerm_iff.mp z).length_eq⟩
  · unfold moreL
    by_cases e : gs.length = 2
    · rw [if_pos e]; decide
    · rw [if_neg e, List.length_append]
      show gs.length + 1 ≤ 2
      omega
  · unfold moreL
    by_cases e : gs.length = 2
    · rw [if_pos e]
      exact fun _ z => nomatch z
    · rw [if_neg e]
      intro s hs
      rcases List.mem_append.mp hs with hs | hs
      · exact h.all s hs
      · rw [List.mem_singleton.mp hs]
        exact mk
  · unfold moreL
    by_cases e : gs.length = 2
    · rw [if_pos e]
      exact .nil
    · rw [if_neg e]
      refine List.nodup_append.mpr ⟨h.nd, by simp, fun u hu v hv z => ?_⟩
      rw [List.mem_singleton.mp hv] at z
      rw [z] at hu
      exact nin.elim (fun n => n hu) e
theorem rev_ok {nm : Str} {gs : List Str} (h : UOk nm gs) : UOk nm gs.reverse ∧ gs.isPerm gs.reverse = true :=
  ⟨⟨h.name, by rw [List.length_reverse]; exact h.le, fun s hs => h.all s (List.mem_reverse.mp hs), (List.reverse_perm gs).nodup_iff.mpr h.nd⟩, List.isPerm_iff.mpr (List.reverse_perm gs).symm⟩
section
variable {P : Program} {w : World} {K : PySem.W.Frag} {mg : Str → Option Value} {base : Heap} {a : Ads}
theorem ok_get {C : Addr} (T : Txt P w K mg a) (isu : IsU a C) : FnOk P w K mg base CX0 1 a.f_User_name a.d_User_name ["self"] (getSp C "_name") ∧ FnOk P w K mg base CX0 1 a.f_User_groups a.d_User_groups ["self"] (getSp C "_groups") := by
  obtain ⟨cC, nN, nG⟩ := isu.cls T
  constructor
  · obtain ⟨oc, od, kV, doc, pm, an, cdv, ct, osl, e, lk, hcd⟩ := T.fn_User_name.ex
    rw [e]
    exact fn_getter (by rw [← e]; exact lk) hcd sc_User_name rfl rfl cC nN
  · obtain ⟨oc, od, kV, doc, pm, an, cdv, ct, osl, e, lk, hcd⟩ := T.fn_User_groups.ex
    rw [e]
    exact fn_getter (by rw [← e]; exact lk) hcd sc_User_groups rfl rfl cC nG
theorem ok_right (T : Txt P w K mg a) : KD.FnG P w K mg base 9 a.f__law_right a.d__law_right ["_law_is_chief", "_law_name", "_law_groups"] (spLR K a) := by
  obtain ⟨oc, od, kV, doc, pm, an, cdv, ct, osl, eF, lk, hcd⟩ := T.fn__law_right.ex
  rw [eF] at lk
  rw [eF]
  have G__law_made_user : FnOk P w K mg base (L2.CX P w) 8 _ _ _ _ := (ok_mu T).mono (by decide)
  have G_User_eq : FnOk P w K mg base CX0 7 _ _ _ _ := (ok_User_eq T).mono (by decide)
  have G_User_name : FnOk P w K mg base CX0 7 _ _ _ _ := (ok_get T (.inl rfl)).1.mono (by decide)
  have G_User_groups : FnOk P w K mg base CX0 7 _ _ _ _ := (ok_get T (.inl rfl)).2.mono (by decide)
  have G_Chief_name : FnOk P w K mg base CX0 7 _ _ _ _ := (ok_get T (.inr rfl)).1.mono (by decide)
  have G_Chief_groups : FnOk P w K mg base CX0 7 _ _ _ _ := (ok_get T (.inr rfl)).2.mono (by decide)
  refine KD.fnG_of lk hcd sc__law_right (fun vs H Q E h => ?_) fun A outer s H vs Q E gd hr h => ?_
  · obtain ⟨_, _, _, _, rfl, _⟩ := h
    rfl
  · obtain ⟨g, nm, gs, ch, rfl, hg, ok, k⟩ := h
    have hrc : Room 8 _ := hr
    have hrm : Room (7 + 1) _ := hr
    have hrn : Room (7 + 1) _ := hr
    have hu64 := hr.units
    refine ⟨_, (show PSs (cxOf CX0 P w K mg base n__law_right "_law_right" (defScope s__law_right) a.f__law_right cdv A outer s H E).nox (defBody s__law_right) _ from (pss_cons (ps_par (i := 3) (j := 4) rfl sc__law_right.nd rfl rfl (by decide) rfl rfl (pa_cons (pe_call G__law_made_user hrc rfl T.mg__law_made_user T.fn__law_made_user.kp (bd__law_made_user T) .nil passL (pa_cons (pv 0) (pa_cons (pv 1) (pa_cons (pv 2) pa_nil)))) (pa_cons (pe_call G__law_made_user hrc rfl T.mg__law_made_user T.fn__law_made_user.kp (bd__law_made_user T) .nil passL (pa_cons (pe_not (pv 0)) (pa_cons (pv 1) (pa_cons (pv 2) pa_nil)))) pa_nil)) (by rfl))
    (pss_cons (ps_if (PW.pt (pw_or (pt_cmpR op_ne (pe_callB (KD.call_reprV gd hu64) (by rfl) T.b_repr PyProof.Rows.boot_repr (pa_cons (pe_lst (pa_cons (pe_or (pe_prop (pv 3) T.c_User T.p_User_name G_User_name hrm (bd_User_name T) .nil pass0 rfl) (pe_prop (pv 3) T.c_Chief T.p_Chief_name G_Chief_name hrm (bd_User_name T) .nil pass0 rfl)) (pa_cons (pe_or (pe_prop (pv 3) T.c_User T.p_User_groups G_User_groups hrm (bd_User_groups T) .nil pass0 rfl) (pe_prop (pv 3) T.c_Chief T.p_Chief_groups G_Chief_groups hrm (bd_User_groups T) .nil pass0 rfl)) pa_nil))) pa_nil)) (pe_callB (KD.call_reprV gd hu64) (by rfl) T.b_repr PyProof.Rows.boot_repr (pa_cons (pe_lst (pa_cons (pv 1) (pa_cons (pe_callTy call_tuple_of (by rfl) T.b_tuple (by decide +kernel) (pa_cons (pv 2) pa_nil)) pa_nil))) pa_nil)) (nomark _)) (pw_or1 (pt_cmpR op_ne (pe_callB call_isi (by rfl) T.b_isinstance PyProof.Rows.boot_isinstance (pa_cons (pv 3) (pa_cons (pe_glob (v := .ref a.f_Chief) rfl T.mg_Chief rfl) pa_nil))) (pv 0) (nomark _))))) (pss_one (ps_ret pe_bl)) pss_nil)
    (pss_cons (ps_if (PW.pt (pw_or (pt_not (pt_val (pe_callB call_isi (by rfl) T.b_isinstance PyProof.Rows.boot_isinstance (pa_cons (pv 3) (pa_cons (pe_glob (v := .ref a.f_User) rfl T.mg_User rfl) pa_nil))))) (pw_or (pt_or (pt_cmpR (op_ownNe T.en_User T.im_User T.e_User T.ef_ (G_User_eq.raw (bd_UserD_eqD T) .nil) hrn pass0) (pv 3) (pe_call G__law_made_user hrc rfl T.mg__law_made_user T.fn__law_made_user.kp (bd__law_made_user T) .nil passL (pa_cons (pv 0) (pa_cons (pv 1) (pa_cons (pe_revL (pv 2)) pa_nil)))) (nomark _)) (pt_cmpR (op_ownNe T.en_Chief T.im_Chief T.e_Chief T.ef_ (G_User_eq.raw (bd_UserD_eqD T) .nil) hrn pass0) (pv 3) (pe_call G__law_made_user hrc rfl T.mg__law_made_user T.fn__law_made_user.kp (bd__law_made_user T) .nil passL (pa_cons (pv 0) (pa_cons (pv 1) (pa_cons (pe_revL (pv 2)) pa_nil)))) (nomark _))) (pw_or (pt_or (pt_cmpR (KV.op_ownRF T.ne_User_Chief T.mro_Chief_User T.e_Chief T.ef_ (G_User_eq.raw (bd_UserD_eqD T) .nil) (hrc.mono (by decide)) pass0) (pv 3) (pv 4) (nomark _)) (pt_cmpR (KD.op_ownB (op := .Eq) (by intro _ _; rfl) T.e_Chief T.ef_ (G_User_eq.raw (bd_UserD_eqD T) .nil) (hrc.mono (by decide)) pass0) (pv 3) (pv 4) (nomark _))) (pw_or1 (pt_or (pt_cmpR (KV.op_ownRF T.ne_User_Chief T.mro_Chief_User T.e_Chief T.ef_ (G_User_eq.raw (bd_UserD_eqD T) .nil) (hrc.mono (by decide)) pass0) (pv 4) (pv 3) (nomark _)) (pt_cmpR (KD.op_ownB (op := .Eq) (by intro _ _; rfl) T.e_Chief T.ef_ (G_User_eq.raw (bd_UserD_eqD T) .nil) (hrc.mono (by decide)) pass0) (pv 4) (pv 3) (nomark _)))))))) (pss_one (ps_ret pe_bl)) pss_nil)
    (pss_cons (ps_set (i := 5) sc__law_right.nd rfl (Or.inl rfl) (pe_ifExp (pt_cmpR op_eq (pv 1) pe_str (nomark _)) pe_str pe_str))
    (pss_cons (ps_if (PW.pt (pw_or (pt_or (pt_cmpR (KD.op_ownB (op := .Eq) (by intro _ _; rfl) T.e_User T.ef_ (G_User_eq.raw (bd_UserD_eqD T) .nil) (hrc.mono (by decide)) pass0) (pv 3) (pe_call G__law_made_user hrc rfl T.mg__law_made_user T.fn__law_made_user.kp (bd__law_made_user T) .nil passL (pa_cons (pv 0) (pa_cons (pv 5) (pa_cons (pv 2) pa_nil)))) (nomark _)) (pt_cmpR (KD.op_ownB (op := .Eq) (by intro _ _; rfl) T.e_Chief T.ef_ (G_User_eq.raw (bd_UserD_eqD T) .nil) (hrc.mono (by decide)) pass0) (pv 3) (pe_call G__law_made_user hrc rfl T.mg__law_made_user T.fn__law_made_user.kp (bd__law_made_user T) .nil passL (pa_cons (pv 0) (pa_cons (pv 5) (pa_cons (pv 2) pa_nil)))) (nomark _))) (pw_or (pt_or (pt_cmpR (KD.op_ownB (op := .Eq) (by intro _ _; rfl) T.e_User T.ef_ (G_User_eq.raw (bd_UserD_eqD T) .nil) (hrc.mono (by decide)) pass0) (pv 3) (pv 1) (nomark _)) (pt_cmpR (KD.op_ownB (op := .Eq) (by intro _ _; rfl) T.e_Chief T.ef_ (G_User_eq.raw (bd_UserD_eqD T) .nil) (hrc.mono (by decide)) pass0) (pv 3) (pv 1) (nomark _))) (pw_or1 (pt_or (pt_cmpR (KD.op_ownB (op := .Eq) (by intro _ _; rfl) T.e_User T.ef_ (G_User_eq.raw (bd_UserD_eqD T) .nil) (hrc.mono (by decide)) pass0) (pv 3) (pe_tup (pa_cons (pv 1) (pa_cons (pe_callTy call_tuple_of (by rfl) T.b_tuple (by decide +kernel) (pa_cons (pv 2) pa_nil)) pa_nil))) (nomark _)) (pt_cmpR (KD.op_ownB (op := .Eq) (by intro _ _; rfl) T.e_Chief T.ef_ (G_User_eq.raw (bd_UserD_eqD T) .nil) (hrc.mono (by decide)) pass0) (pv 3) (pe_tup (pa_cons (pv 1) (pa_cons (pe_callTy call_tuple_of (by rfl) T.b_tuple (by decide +kernel) (pa_cons (pv 2) pa_nil)) pa_nil))) (nomark _))))))) (pss_one (ps_ret pe_bl)) pss_nil)
    (pss_cons (ps_set (i := 6) sc__law_right.nd rfl (Or.inl rfl) (pe_ifExp (pt_cmpR op_eq (pe_callB call_len_seq (by rfl) T.b_len PySem.boot_len (pa_cons (pv 2) pa_nil)) pe_int (nomark _)) (pe_lst pa_nil) (pe_op op_cat (pv 2) (pe_lst (pa_cons (pe_ifExp (pt_cmpR op_notIn_seq pe_str (pv 2) (by rfl)) pe_str pe_str) pa_nil)))))
    (pss_one (ps_ret (pe_or (pe_cmpR (op_ownNe T.en_User T.im_User T.e_User T.ef_ (G_User_eq.raw (bd_UserD_eqD T) .nil) hrn pass0) (pv 3) (pe_call G__law_made_user hrc rfl T.mg__law_made_user T.fn__law_made_user.kp (bd__law_made_user T) .nil passL (pa_cons (pv 0) (pa_cons (pv 1) (pa_cons (pv 6) pa_nil)))) (nomark _)) (pe_cmpR (op_ownNe T.en_Chief T.im_Chief T.e_Chief T.ef_ (G_User_eq.raw (bd_UserD_eqD T) .nil) hrn pass0) (pv 3) (pe_call G__law_made_user hrc rfl T.mg__law_made_user T.fn__law_made_user.kp (bd__law_made_user T) .nil passL (pa_cons (pv 0) (pa_cons (pv 1) (pa_cons (pv 6) pa_nil)))) (nomark _)))))))))))), ?_⟩
    have ga := ok.good
    refine q_parD (en_mu (ch := ch) (ev_var rfl) (ev_var rfl) (ez_of (ev_var rfl) hg) ok H (Ex.refl _) _ fun b H1 hb0 e1 hu1 => en_mu (ch := !ch) (ev_notV (ev_var rfl)) (ev_var rfl) (ez_of (ev_var rfl) (e1 _ _ hg)) ok H1 (Ex.refl _) _ fun c H2 hc0 e2 hu2 => ⟨_, _, rfl, ?_⟩)
    have e02 := e1.trans e2
    have hu1 := hu1.mono e2
    have ks := isu_cls (a := a) (ch := ch)
    refine q_when (b := false) (et_is (et_or (a := false) (b := false) (et_is (et_test (ev_op (ev_reprU (K := K) ok (ev_get2 (ev_var rfl) hu1 fun t _ => fs_name nm t) (ew_get2 (ev_var rfl) hu1)) (ev_reprU (K := K) ok (ev_var rfl) (ew_u (eu_tupleL (K := K) (ev_var rfl) (e02 _ _ hg)))) (rv_ne rfl))) (by simp)) fun _ => et_is (et_test (ev_op (ev_isi (ea_cons (ev_var rfl) (ea_cons ev_c ea_nil)) (.own _) (fun H' e' => ks.tyx T (hu1.mono e')) (ks.kitC T)) (ev_var rfl) (rv_ne rfl))) ?_) rfl) (fun z => nomatch z) fun _ H3 e3 => ?_
    · have n := T.ne_User_Chief
      cases ch
      · show (!decide (V.bl (decide (a.f_User = a.f_Chief)) = V.bl false)) = false
        rw [decide_eq_false n]
        rfl
      · show (!decide (V.bl (decide (a.f_Chief = a.f_Chief)) = V.bl true)) = false
        rw [decide_eq_true rfl]
        rfl
    have e03 := e02.trans e3
    have hu1 := hu1.mono e3
    have hu2 := hu2.mono e3
    obtain ⟨okR, pR⟩ := rev_ok ok
    refine q_when (b := false) (et_is (et_or (a := false) (b := false) (et_is (et_not (a := true) (et_B (ev_isi (ea_cons (ev_var rfl) (ea_cons ev_c ea_nil)) (.own _) (fun H' e' => ks.tyx T (hu1.mono e')) (ks.kitU T)))) rfl) fun _ => et_or (a := false) (b := false) (et_is (et_or2 (ev_ne2 (ev_var rfl) hu1 ga (en_mu (ch := ch) (ev_var rfl) (ev_var rfl) (ez_rev (K := K) (ev_var rfl) (e03 _ _ hg)) okR) okR.good)) ?_) fun _ => et_or (a := false) (b := false) (et_or2 (ev_eqO T (ev_var rfl) (ev_var rfl) hu1 ga hu2 ga)) fun _ => et_or2 (ev_eqO T (ch := !ch) (ev_var rfl) (ev_var rfl) hu2 ga (by rw [Bool.not_not]; exact hu1) ga)) rfl) (fun z => nomatch z) fun _ H4 e4 => ?_
    · unfold eqU
      rw [decide_eq_true rfl, decide_eq_true rfl, pR]
      rfl
    have e04 := e03.trans e4
    have hu1 := hu1.mono e4
    obtain ⟨okF, pF⟩ := fresh_ok ok
    refine q_asg (v := .str (freshS nm)) (ev_if (b := decide (nm = "a")) (et_is (et_test (ev_op (ev_var rfl) ev_c (rv_eq rfl))) (decide_eq_decide.mpr ⟨fun z => by injection z, fun z => by rw [z]⟩)) (fun z => ev_is ev_c (by unfold freshS; rw [if_pos (of_decide_eq_true z)])) fun z => ev_is ev_c (by unfold freshS; rw [if_neg (of_decide_eq_false z)])) fun H5 e5 => ?_
    have e05 := e04.trans e5
    have hu1 := hu1.mono e5
    have nfs : PySem.W.notFirst K (clsA a ch) (.type "str") = true ∧ PySem.W.notFirst K (clsA a ch) (.type "tuple") = true := by
      cases ch
      · exact ⟨T.nf_User_str, T.nf_User_tuple⟩
      · exact ⟨T.nf_Chief_str, T.nf_Chief_tuple⟩
    refine q_when (b := false) (et_is (et_or (a := false) (b := false) (et_is (et_or2 (ev_eq2 (ev_var rfl) hu1 ga (ey_new T (en_mu (ch := ch) (ev_var rfl) (ev_var rfl) (ez_of (ev_var rfl) (e05 _ _ hg)) okF) ks okF.good))) ?_) fun _ => et_or (a := false) (b := false) (et_or2 (ev_eq2 (ev_var rfl) hu1 ga (ey_str (ev_var rfl) nfs.1))) fun _ => et_or2 (ev_eq2 (ev_var rfl) hu1 ga (ey_tup (ev_var (v := .str nm) rfl) (ew_u (eu_tupleL (K := K) (ev_var rfl) (e05 _ _ hg))) nfs.2))) rfl) (fun z => nomatch z) fun _ H6 e6 => ?_
    · unfold eqU
      rw [pF, Bool.false_and, Bool.and_false]
    have e06 := e05.trans e6
    have hu1 := hu1.mono e6
    obtain ⟨okM, pM⟩ := more_ok ok
    refine q_asgL (xs := (moreL gs).map V.str) (el_if (b := decide (gs.length = 2)) (et_is (et_test (ev_op (ev_lenS (K := K) (ev_var rfl) (sq_of (e06 _ _ hg))) ev_c (rv_eq rfl))) (decide_eq_decide.mpr ⟨fun z => by injection z with z; rw [List.length_map] at z; omega, fun z => congrArg V.int (by rw [List.length_map]; omega)⟩)) (fun z => el_is (el_lst (vs := []) ea_nil (by decide)) (by unfold moreL; rw [if_pos (of_decide_eq_true z)]; rfl)) fun z => el_is (el_catN (ev_var rfl) (e06 _ _ hg) (el_lst (vs := [.str (moreS gs)]) (ea_cons (ev_if (b := decide (¬ ("zz" : Str) ∈ gs)) (et_is (et_test (ev_op ev_c (ev_var rfl) (rv_niL (K := K) (sq_of (e06 _ _ hg)) rfl (flat_strs _)))) (by rw [inV_strs, decide_not])) (fun z => ev_is ev_c (by unfold moreS; rw [if_neg (of_decide_eq_true z)])) fun z => ev_is ev_c (by unfold moreS; rw [if_pos (Decidable.not_not.mp (of_decide_eq_false z))])) ea_nil) (by show 1 ≤ 100000; decide)) (by rw [List.length_map]; have := ok.le; show gs.length + 1 ≤ 100000; omega)) (by unfold moreL; rw [if_neg (of_decide_eq_false z), List.map_append]; rfl)) fun m H7 hm0 e7 hm => ?_
    refine s_ret (v := .bl true) (ev_is (ev_ne2 (ev_var rfl) (hu1.mono e7) ga (en_mu (ch := ch) (ev_var rfl) (ev_var rfl) (ez_of (ev_var rfl) hm) okM) okM.good) ?_) fun H8 e8 => k H8 ((e06.trans e7).trans e8)
    unfold eqU
    rw [pM, Bool.and_false, Bool.and_false]
    rfl
end
end KI
set_option Elab.async false
set_option linter.all false
set_option maxRecDepth 100000
set_option maxHeartbeats 4000000
namespace KI
open PySem PySem.Spec PyProof.Rows L2 Evl KF
local macro_rules | `(tactic| walk_at "ev") => `(tactic| repeat' (first | exact ev_c | exact ev_var rfl | exact rv_I0 | refine' rv_I ?_ | refine' rv_eq ?_ | refine' rv_ne ?_ | refine' ev_op ?_ ?_ ?_ | exact ea_nil | refine' ea_cons ?_ ?_ | refine' et_test ?_ | refine' et_B ?_ | refine' et_not ?_ | refine' ev_notV ?_))

open PySem
theorem FnG_mono {P : Program} {w : World} {K : PySem.W.Frag} {mg : Str → Option Value} {base : Heap} {k n : Nat} {f : Addr} {fd : FuncData} {ps : List Str} {sp : Sp} (F : KD.FnG P w K mg base k f fd ps sp) (h : k ≤ n) : KD.FnG P w K mg base n f fd ps sp := ⟨F.len, fun A gd r => F.run A gd (r.mono h)⟩
def spLaw (K : PySem.W.Frag) : Sp := fun vs H Q _ => ∃ (s : Addr) (ns : List Int), vs = [.ref s] ∧ SqL K H s (ns.map V.int) ∧ ns.length ≤ 63 ∧ ∀ H', Q (.bl true) H'
/-- drawn groups -/
structure GrAt (K : PySem.W.Frag) (p : Addr) (H : Hp) (g : Addr) (xs : List V) : Prop where
  at_ : H g = some (.lst xs)
  ne : g ≠ p
  le : xs.length ≤ 4
  all : ∀ x ∈ xs, OddP K p H x
theorem GrAt.on {K : PySem.W.Frag} {p : Addr} {H H' : Hp} {g : Addr} {xs : List V} (h : GrAt K p H g xs) (e : ExB p H H') : GrAt K p H' g xs := ⟨e _ _ h.at_ h.ne, h.ne, h.le, fun x hx => stb_odd _ _ _ (h.all x hx) e⟩
theorem uok_of {x : V} {ys : List V} (h : partOf x ys = none) : ∃ nm gs, x = .str nm ∧ ys = gs.map V.str ∧ UOk nm gs := by
  unfold partOf at h
  by_cases z : nmV x = false
  · rw [if_pos z] at h
    cases h
  rw [if_neg z] at h
  have z : nmV x = true := by simpa using z
  by_cases g : gsOk ys = false
  · rw [if_pos g] at h
    cases h
  have g : gsOk ys = true := by simpa using g
  obtain ⟨nm, rfl⟩ := str_of z
  unfold gsOk unV at g
  simp only [Bool.and_eq_true, decide_eq_true_eq] at g
  obtain ⟨g1, g2, g3⟩ := g
  have es := strs_of g2
  refine ⟨nm, ys.filterMap strOf, rfl, es, z, ?_, fun s hs => ?_, g3⟩
  · have := congrArg List.length es
    rw [List.length_map] at this
    omega
  · have : V.str s ∈ ys := by
      rw [es]
      exact List.mem_map.mpr ⟨s, hs, rfl⟩
    exact List.all_eq_true.mp g2 _ this
section
variable {K : PySem.W.Frag} {σ : L2.St} {H : Hp} {te ta tb : TE} {tt : TT} {tu tz : TS} {D : Ends} {xs : List V} {tl th : TO} {lo hi : Option Int} {C : Addr} {nm : Str} {gs : List Str} {E : XK} {p lc g : Addr} {n : Nat} {i j : Nat}
theorem el_sliceN (h : EvL te σ H xs) (h1 : EvO tl σ H lo) (h2 : EvO th σ H hi) : EvL (tSl (rSlL K) te tl th) σ H (cutV xs lo hi) := fun H1 e Q q =>
  h H1 e _ fun p H2 hp e2 h2' => h1 H2 (e.trans e2) _ fun H3 e3 => h2 H3 ((e.trans e2).trans e3) _ fun H4 e4 => ⟨p, xs, rfl, sq_of ((e3.trans e4) _ _ h2'), fun l hl => q l _ (fresh_back ((e2.trans e3).trans e4) hl) (((e2.trans e3).trans e4).trans (Ex.new hl)) upd_same⟩
/-- a new user's groups -/
theorem ew_getN (h : EvN te σ H C nm gs) : EvX (tProp C (getSp C "_groups") [] E te) σ H (gs.map V.str) := fun H1 e Q q => h H1 e _ fun b H2 hb e2 ⟨dx, t, h1, h2⟩ => ⟨b, dx, _, rfl, h1, b, dx, _, _, rfl, h1, fs_groups nm t, q t H2 e2 h2⟩
theorem ev_eqE (h1 : EvX ta σ H []) (h2 : EvU tb σ H []) : Ev (tOp (rEqD K) ta tb) σ H (.bl true) := fun H1 e Q q =>
  h1 H1 e _ fun p H2 e2 hp => h2 H2 (e.trans e2) _ fun u H3 _ e3 hu => ⟨.tuple [], .tuple [], .tup (st_of (e3 _ _ hp)) .nil, .tup (st_of hu) .nil, by decide +kernel, by decide +kernel, by rw [show PyData.eqv (.tuple []) (.tuple []) = true by decide +kernel]; exact q H3 (e2.trans e3)⟩
theorem en_user {a : Ads} {ta : TA} (h : EvA ta σ H [.str nm]) (ok : UOk nm []) : EvN (StX.tMakeR a.f_User (spMadeU K a a.f_User) E ta) σ H a.f_User nm [] := fun H1 e Q q =>
  em_user (x := .str nm) (xs := []) (ch := false) (h.mono e) ok.may ⟨fun _ nm' gs b H' en eg hb ex hu => by
    cases en
    obtain rfl : gs = [] := by cases gs with | nil => rfl | cons _ _ => cases eg
    exact q b H' hb ex hu, fun s ps => by
      have := ok.part
      rw [show (([] : List Str).map V.str) = [] from rfl] at this
      rw [this] at ps
      cases ps⟩ rfl
/-- if draw(pen, 3) == 0 and groups != []: groups = .. -/
theorem q_ifRaw {M : L2.St → Hp → Prop} (h : (∀ σ2 H2, M σ2 H2 → tz D σ2 H2) → tt σ H fun b H1 => if b = true then tu { D with nx := tz D } σ H1 else tz D σ H1) (k : ∀ σ2 H2, M σ2 H2 → tz D σ2 H2) : tSeq (tIfS tt tu tNext) tz D σ H := h k
theorem iteC {b : Bool} {p q : Prop} (h1 : b = true → p) (h2 : b = false → q) : if b = true then p else q := by
  cases b with
  | true => exact h1 rfl
  | false => exact h2 rfl
theorem q_asgD2 {i : Nat} (h : te σ H fun v H1 => tz D (σ.set i (some v)) H1) : tSeq (tAsg te (gName i)) tz D σ H := h
end
theorem scal_pV (o : Option Str) : scal (pV o) (pV o) = true := by cases o <;> rfl
section
variable {P : Program} {w : World} {K : PySem.W.Frag} {mg : Str → Option Value} {base : Heap} {a : Ads}
theorem ok_law (T : Txt P w K mg a) {fL : Addr} {oc kV doc pm cdv ct : Value} {od an : Option Addr} {osl : Array (Option Value)} (lkL : K.lookup fL = some ⟨oc, od, .func (PySem.W.fnOf "law" "law" (defArgs s_law) (defBody s_law) (defScope s_law) .none kV doc pm an cdv ct), osl⟩) (hcdL : PySem.W.codeIn K cdv "law" = true) :
    KD.FnG P w K mg base 11 fL (PySem.W.fnOf "law" "law" (defArgs s_law) (defBody s_law) (defScope s_law) .none kV doc pm an cdv ct) ["_law_script"] (spLaw K) := by
  have G__law_pen : FnOk P w K mg base CX0 10 _ _ _ _ := (ok_pen T).mono (by decide)
  have G__law_draw : FnOk P w K mg base CX0 10 _ _ _ _ := (ok_draw T).mono (by decide)
  have G__law_pick : FnOk P w K mg base CX0 10 _ _ _ _ := (ok_pick T).mono (by decide)
  have G__law_drawn_name : FnOk P w K mg base CX0 10 _ _ _ _ := (ok_dn T).mono (by decide)
  have G__law_wrong_part : FnOk P w K mg base CX0 10 _ _ _ _ := (ok_wp T).mono (by decide)
  have G__law_heard : FnOk P w K mg base CX0 10 _ _ _ _ := (ok_lh T).mono (by decide)
  have G__law_right : KD.FnG P w K mg base 10 _ _ _ _ := FnG_mono (ok_right T) (by decide)
  have G_User_init : FnR P w K mg base (L2.CX P w) 9 _ _ := (ok_made_U T).mono (by decide)
  have G_User_groups : FnOk P w K mg base CX0 9 _ _ _ _ := (ok_get T (.inl rfl)).2.mono (by decide)
  obtain ⟨tm, hm⟩ := T.k_User_GROUPS
  refine KD.fnG_of lkL hcdL sc_law (fun vs H Q E h => ?_) fun A outer s H vs Q E gd hr h => ?_
  · obtain ⟨_, _, rfl, _⟩ := h
    rfl
  · obtain ⟨sc, ns, rfl, hs, hl, kk⟩ := h
    have hrc : Room 10 _ := hr
    have hrm : Room (9 + 1) _ := hr
    have hu64 := hr.units
    refine ⟨_, (show PSs (cxOf CX0 P w K mg base n_law "law" (defScope s_law) fL cdv A outer s H E).nox (defBody s_law) _ from (pss_cons (ps_set (i := 1) sc_law.nd rfl (Or.inr rfl) (pe_call G__law_pen hrc rfl T.mg__law_pen T.fn__law_pen.kp (bd__law_pen T) .nil pass0 (pa_cons (pv 0) pa_nil)))
    (pss_cons (ps_for PassesOwn.never rfl (pi_range1 rfl T.b_range (pa_cons pe_int pa_nil)) (pg_name (i := 2) sc_law.nd rfl (Or.inl rfl)) (pss_cons (ps_par (i := 3) (j := 4) rfl sc_law.nd rfl rfl (by decide) rfl rfl (pa_cons (pe_call G__law_drawn_name hrc rfl T.mg__law_drawn_name T.fn__law_drawn_name.kp (bd__law_drawn_name T) .nil pass0 (pa_cons (pv 1) pa_nil)) (pa_cons (pe_cmpR op_eq (pe_call G__law_draw hrc rfl T.mg__law_draw T.fn__law_draw.kp (bd__law_draw T) .nil pass0 (pa_cons (pv 1) (pa_cons pe_int pa_nil))) pe_int (nomark _)) pa_nil)) (by rfl))
    (pss_cons (ps_setLc (i := 5) (own := [("_law_k", 7)]) (g := gName 7) rfl sc_law.nd rfl rfl (sw_true rfl rfl rfl (by decide +kernel)) (pi_range1 rfl T.b_range (pa_cons (pe_call G__law_pick hrc rfl T.mg__law_pick T.fn__law_pick.kp (bd__law_pick T) .nil pass0 (pa_cons (pv 1) (pa_cons (pe_lst (pa_cons pe_int (pa_cons pe_int (pa_cons pe_int (pa_cons pe_int (pa_cons pe_int (pa_cons pe_int pa_nil))))))) pa_nil))) pa_nil)) (blkOk_by (own := [("_law_k", 7)]) (N := n_law) (sc := defScope s_law) (by decide +kernel)) (fun _ _ _ _ _ => (pg_name (i := 7) sc_law.nd rfl (Or.inl rfl))) (fun _ _ _ _ _ => pts_nil) (fun _ _ _ _ _ => (pe_call G__law_drawn_name hrc rfl T.mg__law_drawn_name T.fn__law_drawn_name.kp (bd__law_drawn_name T) .nil pass0 (pa_cons (pv 1) pa_nil))))
    (pss_cons (ps_if (PW.pt (pw_and (pt_cmpR op_eq (pe_call G__law_draw hrc rfl T.mg__law_draw T.fn__law_draw.kp (bd__law_draw T) .nil pass0 (pa_cons (pv 1) (pa_cons pe_int pa_nil))) pe_int (nomark _)) (pw_and1 (pt_cmpR (KV.op_neNilL rfl hr.units) (pv 5) (pe_lst pa_nil) (nomark _))))) (pss_one (ps_set (i := 5) sc_law.nd rfl (Or.inl rfl) (pe_slice sl_list (pe_op op_cat (pv 5) (pe_slice sl_list (pv 5) po_none (po_some pe_int))) po_none (po_some pe_int)))) pss_nil)
    (pss_cons (ps_if (pt_val (pv 4)) (pss_one (ps_set (i := 5) sc_law.nd rfl (Or.inl rfl) (pe_slice sl_list (pv 5) po_none (po_some pe_int)))) pss_nil)
    (pss_cons (ps_set (i := 6) sc_law.nd rfl (Or.inl rfl) (pe_call G__law_wrong_part hrc rfl T.mg__law_wrong_part T.fn__law_wrong_part.kp (bd__law_wrong_part T) .nil pass0 (pa_cons (pv 3) (pa_cons (pv 5) pa_nil))))
    (pss_cons (ps_if (pt_cmpR op_ne (pe_call G__law_heard hrc rfl T.mg__law_heard T.fn__law_heard.kp (bd__law_heard T) .nil pass0 (pa_cons (pv 4) (pa_cons (pv 3) (pa_cons (pv 5) pa_nil)))) (pv 6) (nomark _)) (pss_one (ps_ret pe_bl)) pss_nil)
    (pss_one (ps_if (PW.pt (pw_and (pt_cmpR op_isN (pv 6) pe_non (nomark _)) (pw_and1 (pt_not (pt_val (KD.pe_callG (E := fun _ _ _ => False) G__law_right gd hrc rfl T.mg__law_right T.fn__law_right.kp (bd__law_right T) (pa_cons (pv 4) (pa_cons (pv 3) (pa_cons (pv 5) pa_nil))))))))) (pss_one (ps_ret pe_bl)) pss_nil)))))))))
    (pss_one (ps_ret (pe_and (pe_cmpR op_eq (ClX.pe_cval (pe_glob (v := .ref a.f_User) rfl T.mg_User rfl)) pe_int (nomark _)) (pe_one (pe_cmpR (op_eqD hr.units) (pe_prop (StX.pe_makeR T.mk_User G_User_init hrm rfl T.mg_User passL (pa_cons pe_str pa_nil)) T.c_User T.p_User_groups G_User_groups hrm (bd_User_groups T) .nil pass0 rfl) (pe_tup pa_nil) (nomark _))))))))), ?_⟩
    refine ⟨.ref sc, rfl, sc, ns, rfl, hs, hl, fun p H1 hp e1 pen1 => ?_⟩
    obtain ⟨lc, pen1⟩ := pen1.fixL
    refine q_forR1 (n := 8) (ea_cons ev_c ea_nil) (by decide) (fun i σ' H' => ∃ o2 o3 o4 o5 o6 o7, σ' = [some (.ref sc), some (.ref p), o2, o3, o4, o5, o6, o7] ∧ PenL H' p lc (60 * i)) (fun H2 e2 => ⟨_, _, _, _, _, _, rfl, pen1.keep e2⟩) (fun i σ' H2 hi q => ?_) (fun σ' H2 q => ?_)
    · obtain ⟨o2, o3, o4, o5, o6, o7, rfl, pen2⟩ := q
      have hi8 : i < 8 := by omega
      refine q_parD ⟨.ref p, rfl, p, lc, 60 * i, rfl, pen2, by omega, fun x H3 ox3 fx x3 pen3 => ?_⟩
      refine draw_r (p := p) (lc := lc) 3 rfl ev_c pen3 (by omega) (by decide) (by decide) fun d4 H4 hd4 x4 pen4 => ⟨rfl, _, _, rfl, ?_⟩
      have ox4 := stb_odd _ _ _ ox3 x4.ex
      generalize decide (V.int (d4 : Nat) = V.int 0) = ch
      refine q_asgD2 (lc_rng1 (pick_raw rfl (el_raw (el_lst (vs := [.int 0, .int 1, .int 2, .int 2, .int 3, .int 4]) (ea_cons ev_c (ea_cons ev_c (ea_cons ev_c (ea_cons ev_c (ea_cons ev_c (ea_cons ev_c ea_nil)))))) (by show 6 ≤ 100000; decide)) fun q5 H5 hq5 e5 h5 => pk_list (lc := lc) (pen4.keep e5) (by omega) h5 (pen4.pen.ne_new hq5) (by show 0 < 6; decide) (by show 6 ≤ 1000; decide) fun vn H6 hvn x6 pen6 => ?_)))
      obtain ⟨m, hm4, rfl⟩ : ∃ m : Nat, m ≤ 4 ∧ vn = .int (m : Nat) := by
        simp only [List.mem_cons, List.not_mem_nil, or_false] at hvn
        rcases hvn with rfl | rfl | rfl | rfl | rfl | rfl
        · exact ⟨0, by decide, rfl⟩
        · exact ⟨1, by decide, rfl⟩
        · exact ⟨2, by decide, rfl⟩
        · exact ⟨2, by decide, rfl⟩
        · exact ⟨3, by decide, rfl⟩
        · exact ⟨4, by decide, rfl⟩
      refine ⟨(m : Nat), rfl, by omega, by omega, ?_⟩
      refine lc_pen (p := p) (lc := lc) (n := m) (k := 60 * i + 12) (step := 10) (B := OddP K p) (fun _ => rfl) loc_odd (pen6.more (by omega)) (by omega) (fun y t H7 QQ ht x7 pen7 kq => ⟨.ref p, rfl, p, lc, _, rfl, pen7, by omega, fun z H8 oz fz x8 pen8 => kq z H8 oz fz x8 (pen8.more (by omega))⟩) (fun g xs H7 hg hlen all7 x7 pen7 h7 => ?_)
      have x47 : ExP p H4 H7 := ((ExP.of e5).trans x6).trans x7
      have ox7 := stb_odd _ _ _ ox4 x47.ex
      have pen7 := pen7.more (m := 60 * i + 52) (by omega)
      have gp : g ≠ p := pen6.pen.ne_new hg
      have gr7 : GrAt K p H7 g xs := ⟨h7, gp, by omega, all7⟩
      refine q_ifRaw (M := fun σ2 H8 => ∃ g2 ys o6 o7, σ2 = [some (.ref sc), some (.ref p), some (.int (i : Nat)), some x, some (.bl ch), some (.ref g2), o6, o7] ∧ OddP K p H8 x ∧ GrAt K p H8 g2 ys ∧ PenL H8 p lc (60 * i + 53)) (fun kM => draw_r (p := p) (lc := lc) 3 rfl ev_c pen7 (by omega) (by decide) (by decide) fun d8 H8 hd8 x8 pen8 => ⟨rfl, _, rfl, iteC (fun hb => (show EvT _ _ H8 (!decide (xs = [])) from et_test (KV.ev_eqNilL (K := K) (neg := true) (ev_var rfl) (gr7.on x8.ex).at_ (el_lst (vs := []) ea_nil (by decide)))) H8 (Ex.refl _) _ fun H9 e9 => iteC (fun hb2 => ?_) fun hb2 => kM _ _ ⟨g, xs, _, _, rfl, stb_odd _ _ _ ox7 (x8.ex.trans (ExB.of e9)), gr7.on (x8.ex.trans (ExB.of e9)), (pen8.keep e9).more (by omega)⟩) fun hb => kM _ _ ⟨g, xs, _, _, rfl, stb_odd _ _ _ ox7 x8.ex, gr7.on x8.ex, pen8.more (by omega)⟩⟩) fun σ2 H8 ⟨g2, ys, o6, o7, eσ, ox8, gr8, pen8⟩ => ?_
      · have gr9 := gr7.on (x8.ex.trans (ExB.of e9))
        have le := gr9.le
        refine s_asgL (xs := (xs ++ xs.take 1).take 4) (el_is (el_sliceN (K := K) (el_catN (ev_var rfl) gr9.at_ (el_is (el_sliceL (K := K) (ev_var rfl) eo_none (eo_some ev_c) (sq_of gr9.at_)) (cut_first 1)) (by rw [List.length_take]; omega)) eo_none (eo_some ev_c)) (cut_first 4)) fun g3 H10 hg3 e10 h10 => kM _ _ ⟨g3, _, _, _, rfl, stb_odd _ _ _ ox7 ((x8.ex.trans (ExB.of e9)).trans (ExB.of e10)), ⟨h10, (pen8.keep e9).pen.ne_new hg3, by rw [List.length_take]; omega, fun z hz => ?_⟩, ((pen8.keep e9).keep e10).more (by omega)⟩
        refine stb_odd _ _ _ (gr9.all z ?_) (ExB.of e10)
        rcases List.mem_append.mp (List.mem_of_mem_take hz) with h | h
        · exact h
        · exact List.mem_of_mem_take h
      subst eσ
      -- if chief: groups = groups[:3]
      refine q_ifRaw (M := fun σ2 H9 => ∃ g2 ys o6 o7, σ2 = [some (.ref sc), some (.ref p), some (.int (i : Nat)), some x, some (.bl ch), some (.ref g2), o6, o7] ∧ OddP K p H9 x ∧ GrAt K p H9 g2 ys ∧ PenL H9 p lc (60 * i + 53) ∧ (ch = true → ys.length ≤ 3)) (fun kM => (et_B (ev_var rfl) : EvT _ _ H8 ch) H8 (Ex.refl _) _ fun H9 e9 => iteC (fun hb => ?_) fun hb => kM _ _ ⟨g2, ys, _, _, rfl, stb_odd _ _ _ ox8 (ExB.of e9), gr8.on (ExB.of e9), pen8.keep e9, fun z => by rw [hb] at z; cases z⟩) fun σ2 H9 ⟨g3, zs, o6, o7, eσ, ox9, gr9, pen9, le3⟩ => ?_
      · have gr9 := gr8.on (ExB.of (p := p) e9)
        have le := gr9.le
        refine s_asgL (xs := ys.take 3) (el_is (el_sliceL (K := K) (ev_var rfl) eo_none (eo_some ev_c) (sq_of gr9.at_)) (cut_first 3)) fun g3 H10 hg3 e10 h10 => kM _ _ ⟨g3, _, _, _, rfl, stb_odd _ _ _ ox8 (ExB.of (e9.trans e10)), ⟨h10, (pen8.keep e9).pen.ne_new hg3, by rw [List.length_take]; omega, fun z hz => stb_odd _ _ _ (gr9.all z (List.mem_of_mem_take hz)) (ExB.of e10)⟩, pen8.keep (e9.trans e10), fun _ => by rw [List.length_take]; omega⟩
      subst eσ
      have mb : MayBe K H9 x zs := ⟨gr9.le, ox9.odd, fun z hz => (gr9.all z hz).odd⟩
      refine q_asg (v := pV (partOf x zs)) (ev_call (vs := [x, .ref g3]) (ea_cons (ev_var rfl) (ea_cons (ev_var rfl) ea_nil)) fun H10 e Q q E => ⟨g3, x, zs, rfl, e _ _ gr9.at_, mb.mono e, q⟩) fun H10 e10 => ?_
      refine q_when (b := false) (et_is (et_test (ev_op (ev_call (vs := [.bl ch, x, .ref g3]) (z := pV (partOf x zs)) (ea_cons (ev_var rfl) (ea_cons (ev_var rfl) (ea_cons (ev_var rfl) ea_nil))) fun H11 e Q q E => ⟨g3, x, zs, ch, rfl, (e10.trans e) _ _ gr9.at_, mb.mono (e10.trans e), le3, q⟩) (ev_var rfl) (rv_ne (scal_pV _)))) (by simp)) (fun z => nomatch z) fun _ H11 e11 => ?_
      have e911 := e10.trans e11
      refine s_if (b := false) (et_is (et_and (a := decide (pV (partOf x zs) = .non)) (b := false) (et_test (ev_op (ev_var rfl) ev_c rv_isN)) fun hn => ?_) (Bool.and_false _)) (fun z => nomatch z) fun _ H12 e12 => ⟨_, _, _, _, _, _, rfl, (pen9.keep (e911.trans e12)).more (by omega)⟩
      have none : partOf x zs = none := by
        have := of_decide_eq_true hn
        cases h : partOf x zs with
        | none => rfl
        | some s => rw [h] at this; cases this
      obtain ⟨nm, gs, rfl, rfl, ok⟩ := uok_of none
      exact et_is (et_not (a := true) (et_B (ev_call (sp := spLR K a) (dvs := []) (vs := [.bl ch, .str nm, .ref g3]) (ea_cons (ev_var rfl) (ea_cons (ev_var rfl) (ea_cons (ev_var rfl) ea_nil))) fun H12 e Q q E => ⟨g3, nm, gs, ch, rfl, (e911.trans e) _ _ gr9.at_, ok, q⟩))) rfl
    · obtain ⟨o2, o3, o4, o5, o6, o7, rfl, pen2⟩ := q
      have ok8 : UOk "abcdefgh" [] := ⟨by decide +kernel, by decide, (fun _ z => nomatch z), .nil⟩
      exact s_ret (v := .bl true) (ev_is (ev_andV (a := true) (b := true) (ev_is (ev_op (ev_cval ev_c T.r_User hm) ev_c (rv_eq rfl)) rfl) fun _ => ev_eqE (K := K) (ew_getN (nm := "abcdefgh") (gs := []) (en_user (K := K) (ea_cons ev_c ea_nil) ok8)) (eu_tup (vs := []) ea_nil (by decide))) rfl) fun H3 e3 => kk H3
end
end KI
set_option Elab.async false
set_option linter.all false
set_option maxRecDepth 100000
set_option maxHeartbeats 4000000
namespace KI
open PySem PySem.Spec PyProof.Rows L2 Evl KF
local macro_rules | `(tactic| walk_at "ev") => `(tactic| repeat' (first | exact ev_c | exact ev_var rfl | exact rv_I0 | refine' rv_I ?_ | refine' rv_eq ?_ | refine' rv_ne ?_ | refine' ev_op ?_ ?_ ?_ | exact ea_nil | refine' ea_cons ?_ ?_ | refine' et_test ?_ | refine' et_B ?_ | refine' et_not ?_ | refine' ev_notV ?_))

open PySem
theorem kit_self {K : PySem.W.Frag} {C : Addr} : PySem.W.kitOne K (.ref C) (.ref C) = some true := by
  unfold PySem.W.kitOne
  rw [if_pos (beq_iff_eq.mpr rfl)]
theorem kit_no {K : PySem.W.Frag} {C : Addr} {cd : PySem.ClassData} (ci : PySem.W.clsIn K C = some cd) (ti : PySem.W.typeIn K (.ref C) = some (.type "type")) (su : PySem.W.subIn K (.type "int") (.ref C) = some false) : PySem.W.kitOne K (.type "int") (.ref C) = some false := by
  unfold PySem.W.kitOne PySem.W.kitCls
  rw [if_neg (fun h => by have := beq_iff_eq.mp h; cases this)]
  show (if ((PySem.W.clsIn K C).isSome && PySem.W.typeIn K (.ref C) == some (.type "type")) = true then PySem.W.subIn K (.type "int") (.ref C) else none) = some false
  rw [if_pos (by rw [ci, ti]; simp), su]
theorem tup_at {K : PySem.W.Frag} {H : Hp} {k : Addr} {its : Array Value} {n : Nat} {od : Option Addr} {sl : Array (Option Value)} {xs : List V} (l : K.lookup k = some ⟨.type "tuple", od, .seq its n, sl⟩) (z : its.size ≤ sizeLine) (r : Vals xs its.toList) : SqT K H k xs := .inr ⟨_, its, n, l, rfl, rfl, z, r⟩
theorem kit_ref {K : PySem.W.Frag} {D B : Addr} {cd : PySem.ClassData} {b : Bool} (ci : PySem.W.clsIn K B = some cd) (ti : PySem.W.typeIn K (.ref B) = some (.type "type")) (su : PySem.W.subIn K (.ref D) (.ref B) = some b) (ne : D ≠ B) : PySem.W.kitOne K (.ref D) (.ref B) = some b := by
  unfold PySem.W.kitOne PySem.W.kitCls
  rw [if_neg (fun h => by have := beq_iff_eq.mp h; cases this; exact ne rfl)]
  show (if ((PySem.W.clsIn K B).isSome && PySem.W.typeIn K (.ref B) == some (.type "type")) = true then PySem.W.subIn K (.ref D) (.ref B) else none) = some b
  rw [if_pos (by rw [ci, ti]; simp), su]
theorem kit_ve {K : PySem.W.Frag} {D : Addr} {b : Bool} (su : PySem.W.subIn K (.ref D) (.type "ValueError") = some b) : PySem.W.kitOne K (.ref D) (.type "ValueError") = some b := by
  unfold PySem.W.kitOne PySem.W.kitCls
  rw [if_neg (fun h => by have := beq_iff_eq.mp h; cases this)]
  show (if PySem.W.kitMeta "ValueError" = true then PySem.W.subIn K (.ref D) (.type "ValueError") else none) = some b
  rw [if_pos (by decide +kernel), su]
theorem exm_ref {K : PySem.W.Frag} {D B : Addr} {cd : PySem.ClassData} {b : Bool} (ex : PySem.W.subIn K (.ref B) (.type "BaseException") = some true) (ci : PySem.W.clsIn K B = some cd) (ti : PySem.W.typeIn K (.ref B) = some (.type "type")) (su : PySem.W.subIn K (.ref D) (.ref B) = some b) : PySem.W.exmOne K (.ref D) (.ref B) = some b := by
  unfold PySem.W.exmOne PySem.W.kitCls
  rw [if_pos (by rw [ex]; rfl)]
  show (if ((PySem.W.clsIn K B).isSome && PySem.W.typeIn K (.ref B) == some (.type "type")) = true then PySem.W.subIn K (.ref D) (.ref B) else none) = some b
  rw [if_pos (by rw [ci, ti]; simp), su]
theorem kit_noT {K : PySem.W.Frag} {C : Addr} {t : String} {cd : PySem.ClassData} (ci : PySem.W.clsIn K C = some cd) (ti : PySem.W.typeIn K (.ref C) = some (.type "type")) (su : PySem.W.subIn K (.type t) (.ref C) = some false) : PySem.W.kitOne K (.type t) (.ref C) = some false := by
  unfold PySem.W.kitOne PySem.W.kitCls
  rw [if_neg (fun h => by have := beq_iff_eq.mp h; cases this)]
  show (if ((PySem.W.clsIn K C).isSome && PySem.W.typeIn K (.ref C) == some (.type "type")) = true then PySem.W.subIn K (.type t) (.ref C) else none) = some false
  rw [if_pos (by rw [ci, ti]; simp), su]
theorem all_mk {l : PySem.W.OpenLaw} {w : World} {K : PySem.W.Frag} {h : Heap} {mg : Str → Option Value} {fa : Addr} (X : K.In h) (G : h.Ns mainGlobals mg) (hfa : mg "law" = some (.ref fa))
    {f_is_name f_are_unlike_names f__law_pen f__law_draw f__law_pick f__law_drawn_name f__law_is_name f__law_wrong_part f__law_made_user f__law_heard f__law_right f_User f_UserD_initD c_UserD_initD f_User_name p_User_name f_User_groups p_User_groups f_Chief f_ChiefD_initD cc_ChiefD_initD c_ChiefD_initD f_UserD_eqD x_BadUser x_BadInput x_ModesError f_BadUserD_initD f_law : Addr}
    {od_is_name : Option Addr} {an_is_name : Option Addr} {sl_is_name : Array (Option Value)} {oc_is_name kV_is_name dc_is_name pm_is_name ct_is_name : Value} {cd_is_name : Value} {od_are_unlike_names : Option Addr} {an_are_unlike_names : Option Addr} {sl_are_unlike_names : Array (Option Value)} {oc_are_unlike_names kV_are_unlike_names dc_are_unlike_names pm_are_unlike_names ct_are_unlike_names : Value} {cd_are_unlike_names : Value} {od__law_pen : Option Addr} {an__law_pen : Option Addr} {sl__law_pen : Array (Option Value)} {oc__law_pen kV__law_pen dc__law_pen pm__law_pen ct__law_pen : Value} {cd__law_pen : Value} {od__law_draw : Option Addr} {an__law_draw : Option Addr} {sl__law_draw : Array (Option Value)} {oc__law_draw kV__law_draw dc__law_draw pm__law_draw ct__law_draw : Value} {cd__law_draw : Value} {od__law_pick : Option Addr} {an__law_pick : Option Addr} {sl__law_pick : Array (Option Value)} {oc__law_pick kV__law_pick dc__law_pick pm__law_pick ct__law_pick : Value} {cd__law_pick : Value} {od__law_drawn_name : Option Addr} {an__law_drawn_name : Option Addr} {sl__law_drawn_name : Array (Option Value)} {oc__law_drawn_name kV__law_drawn_name dc__law_drawn_name pm__law_drawn_name ct__law_drawn_name : Value} {cd__law_drawn_name : Value} {od__law_is_name : Option Addr} {an__law_is_name : Option Addr} {sl__law_is_name : Array (Option Value)} {oc__law_is_name kV__law_is_name dc__law_is_name pm__law_is_name ct__law_is_name : Value} {cd__law_is_name : Value} {od__law_wrong_part : Option Addr} {an__law_wrong_part : Option Addr} {sl__law_wrong_part : Array (Option Value)} {oc__law_wrong_part kV__law_wrong_part dc__law_wrong_part pm__law_wrong_part ct__law_wrong_part : Value} {cd__law_wrong_part : Value} {od__law_made_user : Option Addr} {an__law_made_user : Option Addr} {sl__law_made_user : Array (Option Value)} {oc__law_made_user kV__law_made_user dc__law_made_user pm__law_made_user ct__law_made_user : Value} {cd__law_made_user : Value} {od__law_heard : Option Addr} {an__law_heard : Option Addr} {sl__law_heard : Array (Option Value)} {oc__law_heard kV__law_heard dc__law_heard pm__law_heard ct__law_heard : Value} {cd__law_heard : Value} {od__law_right : Option Addr} {an__law_right : Option Addr} {sl__law_right : Array (Option Value)} {oc__law_right kV__law_right dc__law_right pm__law_right ct__law_right : Value} {cd__law_right : Value} {cd_User : PySem.ClassData} {od_UserD_initD : Option Addr} {an_UserD_initD : Option Addr} {sl_UserD_initD : Array (Option Value)} {oc_UserD_initD kV_UserD_initD dc_UserD_initD pm_UserD_initD ct_UserD_initD : Value} {re_User_name : List Value} {od_User_name : Option Addr} {an_User_name : Option Addr} {sl_User_name : Array (Option Value)} {oc_User_name kV_User_name dc_User_name pm_User_name ct_User_name : Value} {cd_User_name : Value} {re_User_groups : List Value} {od_User_groups : Option Addr} {an_User_groups : Option Addr} {sl_User_groups : Array (Option Value)} {oc_User_groups kV_User_groups dc_User_groups pm_User_groups ct_User_groups : Value} {cd_User_groups : Value} {tk_User_GROUPS : Tok} {cd_Chief : PySem.ClassData} {od_ChiefD_initD : Option Addr} {an_ChiefD_initD : Option Addr} {sl_ChiefD_initD : Array (Option Value)} {oc_ChiefD_initD kV_ChiefD_initD dc_ChiefD_initD pm_ChiefD_initD ct_ChiefD_initD : Value} {ccl_ChiefD_initD : Value} {cdd_ChiefD_initD : Option Addr} {vs_ChiefD_initD : Array Value} {ccs_ChiefD_initD : Array (Option Value)} {fl_ChiefD_initD : Str} {tf_ChiefD_initD : Tok} {cl_ChiefD_initD : Value} {cld_ChiefD_initD : Option Addr} {csl_ChiefD_initD : Array (Option Value)} {od_UserD_eqD : Option Addr} {an_UserD_eqD : Option Addr} {sl_UserD_eqD : Array (Option Value)} {oc_UserD_eqD kV_UserD_eqD dc_UserD_eqD pm_UserD_eqD ct_UserD_eqD : Value} {cd_UserD_eqD : Value} {tk_LT : Tok} {nmB qB : Str} {NB : Addr} {bsB bmB : List Value} {snB : List Str} {subB : List Value} {abB : Bool} {colB : Option Bool} {ddB : Option Addr} {m0B m1B m2B m3B m5B : Option Value} {od_BadUserD_initD : Option Addr} {an_BadUserD_initD : Option Addr} {sl_BadUserD_initD : Array (Option Value)} {oc_BadUserD_initD kV_BadUserD_initD dc_BadUserD_initD pm_BadUserD_initD ct_BadUserD_initD : Value} {cd_BadUserD_initD : Value} {cdx_ModesError : PySem.ClassData} {cdx_BadInput : PySem.ClassData} {od_law : Option Addr} {an_law : Option Addr} {sl_law : Array (Option Value)} {oc_law kV_law dc_law pm_law ct_law : Value} {cd_law : Value}
    (z_isinstance : PySem.W.nsIn K mainGlobals "isinstance" = some none)
    (z_int : PySem.W.nsIn K mainGlobals "int" = some none)
    (z_str : PySem.W.nsIn K mainGlobals "str" = some none)
    (z_list : PySem.W.nsIn K mainGlobals "list" = some none)
    (z_len : PySem.W.nsIn K mainGlobals "len" = some none)
    (z_abs : PySem.W.nsIn K mainGlobals "abs" = some none)
    (z_range : PySem.W.nsIn K mainGlobals "range" = some none)
    (z_tuple : PySem.W.nsIn K mainGlobals "tuple" = some none)
    (z_all : PySem.W.nsIn K mainGlobals "all" = some none)
    (z_set : PySem.W.nsIn K mainGlobals "set" = some none)
    (z_repr : PySem.W.nsIn K mainGlobals "repr" = some none)
    (z_super : PySem.W.nsIn K mainGlobals "super" = some none)
    (z_sorted : PySem.W.nsIn K mainGlobals "sorted" = some none)
    (z_ValueError : PySem.W.nsIn K mainGlobals "ValueError" = some none)
    (a_is_name : PySem.W.nsIn K mainGlobals "is_name" = some (some (.ref f_is_name)))
    (l_is_name : K.lookup f_is_name = some ⟨oc_is_name, od_is_name, .func (PySem.W.fnOf "is_name" "is_name" (defArgs s_is_name) (defBody s_is_name) (defScope s_is_name) .none kV_is_name dc_is_name pm_is_name an_is_name cd_is_name ct_is_name), sl_is_name⟩)
    (co_is_name : PySem.W.codeIn K cd_is_name "is_name" = true)
    (kp_is_name : PySem.W.keepIn K (.ref f_is_name) = true)
    (a_are_unlike_names : PySem.W.nsIn K mainGlobals "are_unlike_names" = some (some (.ref f_are_unlike_names)))
    (l_are_unlike_names : K.lookup f_are_unlike_names = some ⟨oc_are_unlike_names, od_are_unlike_names, .func (PySem.W.fnOf "are_unlike_names" "are_unlike_names" (defArgs s_are_unlike_names) (defBody s_are_unlike_names) (defScope s_are_unlike_names) .none kV_are_unlike_names dc_are_unlike_names pm_are_unlike_names an_are_unlike_names cd_are_unlike_names ct_are_unlike_names), sl_are_unlike_names⟩)
    (co_are_unlike_names : PySem.W.codeIn K cd_are_unlike_names "are_unlike_names" = true)
    (kp_are_unlike_names : PySem.W.keepIn K (.ref f_are_unlike_names) = true)
    (a__law_pen : PySem.W.nsIn K mainGlobals "_law_pen" = some (some (.ref f__law_pen)))
    (l__law_pen : K.lookup f__law_pen = some ⟨oc__law_pen, od__law_pen, .func (PySem.W.fnOf "_law_pen" "_law_pen" (defArgs s__law_pen) (defBody s__law_pen) (defScope s__law_pen) .none kV__law_pen dc__law_pen pm__law_pen an__law_pen cd__law_pen ct__law_pen), sl__law_pen⟩)
    (co__law_pen : PySem.W.codeIn K cd__law_pen "_law_pen" = true)
    (kp__law_pen : PySem.W.keepIn K (.ref f__law_pen) = true)
    (a__law_draw : PySem.W.nsIn K mainGlobals "_law_draw" = some (some (.ref f__law_draw)))
    (l__law_draw : K.lookup f__law_draw = some ⟨oc__law_draw, od__law_draw, .func (PySem.W.fnOf "_law_draw" "_law_draw" (defArgs s__law_draw) (defBody s__law_draw) (defScope s__law_draw) .none kV__law_draw dc__law_draw pm__law_draw an__law_draw cd__law_draw ct__law_draw), sl__law_draw⟩)
    (co__law_draw : PySem.W.codeIn K cd__law_draw "_law_draw" = true)
    (kp__law_draw : PySem.W.keepIn K (.ref f__law_draw) = true)
    (a__law_pick : PySem.W.nsIn K mainGlobals "_law_pick" = some (some (.ref f__law_pick)))
    (l__law_pick : K.lookup f__law_pick = some ⟨oc__law_pick, od__law_pick, .func (PySem.W.fnOf "_law_pick" "_law_pick" (defArgs s__law_pick) (defBody s__law_pick) (defScope s__law_pick) .none kV__law_pick dc__law_pick pm__law_pick an__law_pick cd__law_pick ct__law_pick), sl__law_pick⟩)
    (co__law_pick : PySem.W.codeIn K cd__law_pick "_law_pick" = true)
    (kp__law_pick : PySem.W.keepIn K (.ref f__law_pick) = true)
    (a__law_drawn_name : PySem.W.nsIn K mainGlobals "_law_drawn_name" = some (some (.ref f__law_drawn_name)))
    (l__law_drawn_name : K.lookup f__law_drawn_name = some ⟨oc__law_drawn_name, od__law_drawn_name, .func (PySem.W.fnOf "_law_drawn_name" "_law_drawn_name" (defArgs s__law_drawn_name) (defBody s__law_drawn_name) (defScope s__law_drawn_name) .none kV__law_drawn_name dc__law_drawn_name pm__law_drawn_name an__law_drawn_name cd__law_drawn_name ct__law_drawn_name), sl__law_drawn_name⟩)
    (co__law_drawn_name : PySem.W.codeIn K cd__law_drawn_name "_law_drawn_name" = true)
    (kp__law_drawn_name : PySem.W.keepIn K (.ref f__law_drawn_name) = true)
    (a__law_is_name : PySem.W.nsIn K mainGlobals "_law_is_name" = some (some (.ref f__law_is_name)))
    (l__law_is_name : K.lookup f__law_is_name = some ⟨oc__law_is_name, od__law_is_name, .func (PySem.W.fnOf "_law_is_name" "_law_is_name" (defArgs s__law_is_name) (defBody s__law_is_name) (defScope s__law_is_name) .none kV__law_is_name dc__law_is_name pm__law_is_name an__law_is_name cd__law_is_name ct__law_is_name), sl__law_is_name⟩)
    (co__law_is_name : PySem.W.codeIn K cd__law_is_name "_law_is_name" = true)
    (kp__law_is_name : PySem.W.keepIn K (.ref f__law_is_name) = true)
    (a__law_wrong_part : PySem.W.nsIn K mainGlobals "_law_wrong_part" = some (some (.ref f__law_wrong_part)))
    (l__law_wrong_part : K.lookup f__law_wrong_part = some ⟨oc__law_wrong_part, od__law_wrong_part, .func (PySem.W.fnOf "_law_wrong_part" "_law_wrong_part" (defArgs s__law_wrong_part) (defBody s__law_wrong_part) (defScope s__law_wrong_part) .none kV__law_wrong_part dc__law_wrong_part pm__law_wrong_part an__law_wrong_part cd__law_wrong_part ct__law_wrong_part), sl__law_wrong_part⟩)
    (co__law_wrong_part : PySem.W.codeIn K cd__law_wrong_part "_law_wrong_part" = true)
    (kp__law_wrong_part : PySem.W.keepIn K (.ref f__law_wrong_part) = true)
    (a__law_made_user : PySem.W.nsIn K mainGlobals "_law_made_user" = some (some (.ref f__law_made_user)))
    (l__law_made_user : K.lookup f__law_made_user = some ⟨oc__law_made_user, od__law_made_user, .func (PySem.W.fnOf "_law_made_user" "_law_made_user" (defArgs s__law_made_user) (defBody s__law_made_user) (defScope s__law_made_user) .none kV__law_made_user dc__law_made_user pm__law_made_user an__law_made_user cd__law_made_user ct__law_made_user), sl__law_made_user⟩)
    (co__law_made_user : PySem.W.codeIn K cd__law_made_user "_law_made_user" = true)
    (kp__law_made_user : PySem.W.keepIn K (.ref f__law_made_user) = true)
    (a__law_heard : PySem.W.nsIn K mainGlobals "_law_heard" = some (some (.ref f__law_heard)))
    (l__law_heard : K.lookup f__law_heard = some ⟨oc__law_heard, od__law_heard, .func (PySem.W.fnOf "_law_heard" "_law_heard" (defArgs s__law_heard) (defBody s__law_heard) (defScope s__law_heard) .none kV__law_heard dc__law_heard pm__law_heard an__law_heard cd__law_heard ct__law_heard), sl__law_heard⟩)
    (co__law_heard : PySem.W.codeIn K cd__law_heard "_law_heard" = true)
    (kp__law_heard : PySem.W.keepIn K (.ref f__law_heard) = true)
    (a__law_right : PySem.W.nsIn K mainGlobals "_law_right" = some (some (.ref f__law_right)))
    (l__law_right : K.lookup f__law_right = some ⟨oc__law_right, od__law_right, .func (PySem.W.fnOf "_law_right" "_law_right" (defArgs s__law_right) (defBody s__law_right) (defScope s__law_right) .none kV__law_right dc__law_right pm__law_right an__law_right cd__law_right ct__law_right), sl__law_right⟩)
    (co__law_right : PySem.W.codeIn K cd__law_right "_law_right" = true)
    (kp__law_right : PySem.W.keepIn K (.ref f__law_right) = true)
    (a_User : PySem.W.nsIn K mainGlobals "User" = some (some (.ref f_User)))
    (pg_User : PySem.W.plainGet K f_User Str.empty = true)
    (hd_User : PySem.W.hasDictIn K f_User = true)
    (po_User : PySem.W.plainOver K f_User = true)
    (sa_User : PySem.W.findIn K (.ref f_User) "__setattr__" = some (some (.builtin "object.__setattr__")))
    (ci_User : PySem.W.clsIn K f_User = some cd_User)
    (n_name_User : PySem.W.findIn K (.ref f_User) "_name" = some none)
    (n_groups_User : PySem.W.findIn K (.ref f_User) "_groups" = some none)
    (at_UserD_initD : PySem.W.findIn K (.ref f_User) "__init__" = some (some (.ref f_UserD_initD)))
    (fi_UserD_initD : PySem.W.isFn K (.ref f_UserD_initD) = true)
    (mk_User : PySem.W.makesIn K f_User = true)
    (kc_User : PySem.W.keepIn K (.ref f_User) = true)
    (l_UserD_initD : K.lookup f_UserD_initD = some ⟨oc_UserD_initD, od_UserD_initD, .func (PySem.W.fnX "__init__" "User.__init__" (defArgs s_UserD_initD) (defBody s_UserD_initD) (defScope s_UserD_initD) [] .none kV_UserD_initD dc_UserD_initD pm_UserD_initD an_UserD_initD (.ref c_UserD_initD) ct_UserD_initD), sl_UserD_initD⟩)
    (co_UserD_initD : PySem.W.codeIn K (.ref c_UserD_initD) "User.__init__" = true)
    (at_User_name : PySem.W.findIn K (.ref f_User) "name" = some (some (.ref p_User_name)))
    (ge_User_name : PySem.W.specialIn K (.ref p_User_name) "__get__" = some (some (.builtin "property.__get__")))
    (ta_User_name : PySem.W.takesIn K (.ref p_User_name) = some true)
    (rc_User_name : PySem.W.recIn K p_User_name "property" = some (.ref f_User_name :: re_User_name))
    (l_User_name : K.lookup f_User_name = some ⟨oc_User_name, od_User_name, .func (PySem.W.fnOf "name" "User.name" (defArgs s_User_name) (defBody s_User_name) (defScope s_User_name) .none kV_User_name dc_User_name pm_User_name an_User_name cd_User_name ct_User_name), sl_User_name⟩)
    (co_User_name : PySem.W.codeIn K cd_User_name "User.name" = true)
    (kp_User_name : PySem.W.keepIn K (.ref f_User_name) = true)
    (at_User_groups : PySem.W.findIn K (.ref f_User) "groups" = some (some (.ref p_User_groups)))
    (ge_User_groups : PySem.W.specialIn K (.ref p_User_groups) "__get__" = some (some (.builtin "property.__get__")))
    (ta_User_groups : PySem.W.takesIn K (.ref p_User_groups) = some true)
    (rc_User_groups : PySem.W.recIn K p_User_groups "property" = some (.ref f_User_groups :: re_User_groups))
    (l_User_groups : K.lookup f_User_groups = some ⟨oc_User_groups, od_User_groups, .func (PySem.W.fnOf "groups" "User.groups" (defArgs s_User_groups) (defBody s_User_groups) (defScope s_User_groups) .none kV_User_groups dc_User_groups pm_User_groups an_User_groups cd_User_groups ct_User_groups), sl_User_groups⟩)
    (co_User_groups : PySem.W.codeIn K cd_User_groups "User.groups" = true)
    (kp_User_groups : PySem.W.keepIn K (.ref f_User_groups) = true)
    (rd_User : PySem.W.readsIn K f_User (.type "type") = true)
    (ga_User : PySem.W.specialIn K (.ref f_User) "__getattribute__" = some (some (.builtin "type.__getattribute__")))
    (cv_User_GROUPS : PySem.W.findCls K (.ref f_User) (.type "type") "GROUPS" = some (.val (.int 2 tk_User_GROUPS)))
    (a_Chief : PySem.W.nsIn K mainGlobals "Chief" = some (some (.ref f_Chief)))
    (pg_Chief : PySem.W.plainGet K f_Chief Str.empty = true)
    (hd_Chief : PySem.W.hasDictIn K f_Chief = true)
    (po_Chief : PySem.W.plainOver K f_Chief = true)
    (sa_Chief : PySem.W.findIn K (.ref f_Chief) "__setattr__" = some (some (.builtin "object.__setattr__")))
    (ci_Chief : PySem.W.clsIn K f_Chief = some cd_Chief)
    (n_name_Chief : PySem.W.findIn K (.ref f_Chief) "_name" = some none)
    (n_groups_Chief : PySem.W.findIn K (.ref f_Chief) "_groups" = some none)
    (at_ChiefD_initD : PySem.W.findIn K (.ref f_Chief) "__init__" = some (some (.ref f_ChiefD_initD)))
    (fi_ChiefD_initD : PySem.W.isFn K (.ref f_ChiefD_initD) = true)
    (mk_Chief : PySem.W.makesIn K f_Chief = true)
    (kc_Chief : PySem.W.keepIn K (.ref f_Chief) = true)
    (top_super : (l.prog.main.scope.names.lookup ("super" : Str)).isSome = false)
    (any0 : PySem.W.nsIn K cStatics "thirdparty.any" = some none)
    (subC : PySem.W.mroIn K f_Chief (.ref f_Chief) = some true)
    (l_ChiefD_initD : K.lookup f_ChiefD_initD = some ⟨oc_ChiefD_initD, od_ChiefD_initD, .func (PySem.W.fnX "__init__" "Chief.__init__" (defArgs s_ChiefD_initD) (defBody s_ChiefD_initD) (defScope s_ChiefD_initD) [("__class__", cc_ChiefD_initD)] .none kV_ChiefD_initD dc_ChiefD_initD pm_ChiefD_initD an_ChiefD_initD (.ref c_ChiefD_initD) ct_ChiefD_initD), sl_ChiefD_initD⟩)
    (co_ChiefD_initD : PySem.W.codeIn K (.ref c_ChiefD_initD) "Chief.__init__" = true)
    (lf_ChiefD_initD : K.lookup c_ChiefD_initD = some ⟨ccl_ChiefD_initD, cdd_ChiefD_initD, .fields vs_ChiefD_initD, ccs_ChiefD_initD⟩)
    (v2_ChiefD_initD : vs_ChiefD_initD[2]? = some (.str fl_ChiefD_initD tf_ChiefD_initD))
    (fl_e_ChiefD_initD : ((l.prog.main.file : Str) == fl_ChiefD_initD) = true)
    (lc_ChiefD_initD : K.lookup cc_ChiefD_initD = some ⟨cl_ChiefD_initD, cld_ChiefD_initD, .cell (some (.ref f_Chief)), csl_ChiefD_initD⟩)
    (sat_ChiefD_initD : PySem.W.ks_superIn K f_Chief f_Chief "__init__" = some (some (.ref f_UserD_initD)))
    (sty_ChiefD_initD : PySem.W.typeIn K (.ref f_UserD_initD) = some (.type "function"))
    (sfn_ChiefD_initD : PySem.W.fnIn K f_UserD_initD = true)
    (ia_User : PySem.W.findIn K (.ref f_User) "__class__" = some (some (.builtin "object.__class__")))
    (im_User : PySem.W.mroIn K f_User (.type "object") = some true)
    (ti_User : PySem.W.typeIn K (.ref f_User) = some (.type "type"))
    (sn_User_str : PySem.W.subIn K (.type "str") (.ref f_User) = some false)
    (sn_User_tuple : PySem.W.subIn K (.type "tuple") (.ref f_User) = some false)
    (sn_User_int : PySem.W.subIn K (.type "int") (.ref f_User) = some false)
    (sn_User_NoneType : PySem.W.subIn K (.type "NoneType") (.ref f_User) = some false)
    (sn_User_list : PySem.W.subIn K (.type "list") (.ref f_User) = some false)
    (sn_User_dict : PySem.W.subIn K (.type "dict") (.ref f_User) = some false)
    (nf_User_str : PySem.W.notFirst K f_User (.type "str") = true)
    (nf_User_tuple : PySem.W.notFirst K f_User (.type "tuple") = true)
    (e_User : PySem.W.findIn K (.ref f_User) "__eq__" = some (some (.ref f_UserD_eqD)))
    (en_User : PySem.W.findIn K (.ref f_User) "__ne__" = some (some (.builtin "object.__ne__")))
    (ia_Chief : PySem.W.findIn K (.ref f_Chief) "__class__" = some (some (.builtin "object.__class__")))
    (im_Chief : PySem.W.mroIn K f_Chief (.type "object") = some true)
    (ti_Chief : PySem.W.typeIn K (.ref f_Chief) = some (.type "type"))
    (sn_Chief_str : PySem.W.subIn K (.type "str") (.ref f_Chief) = some false)
    (sn_Chief_tuple : PySem.W.subIn K (.type "tuple") (.ref f_Chief) = some false)
    (sn_Chief_int : PySem.W.subIn K (.type "int") (.ref f_Chief) = some false)
    (sn_Chief_NoneType : PySem.W.subIn K (.type "NoneType") (.ref f_Chief) = some false)
    (sn_Chief_list : PySem.W.subIn K (.type "list") (.ref f_Chief) = some false)
    (sn_Chief_dict : PySem.W.subIn K (.type "dict") (.ref f_Chief) = some false)
    (nf_Chief_str : PySem.W.notFirst K f_Chief (.type "str") = true)
    (nf_Chief_tuple : PySem.W.notFirst K f_Chief (.type "tuple") = true)
    (e_Chief : PySem.W.findIn K (.ref f_Chief) "__eq__" = some (some (.ref f_UserD_eqD)))
    (en_Chief : PySem.W.findIn K (.ref f_Chief) "__ne__" = some (some (.builtin "object.__ne__")))
    (atc_User_name : PySem.W.findIn K (.ref f_Chief) "name" = some (some (.ref p_User_name)))
    (atc_User_groups : PySem.W.findIn K (.ref f_Chief) "groups" = some (some (.ref p_User_groups)))
    (neUC : f_User ≠ f_Chief)
    (suCU : PySem.W.subIn K (.ref f_Chief) (.ref f_User) = some true)
    (suUC : PySem.W.subIn K (.ref f_User) (.ref f_Chief) = some false)
    (nfCU : PySem.W.notFirst K f_Chief (.ref f_User) = true)
    (mroCU : PySem.W.mroIn K f_Chief (.ref f_User) = some true)
    (l_UserD_eqD : K.lookup f_UserD_eqD = some ⟨oc_UserD_eqD, od_UserD_eqD, .func (PySem.W.fnOf "__eq__" "User.__eq__" (defArgs s_UserD_eqD) (defBody s_UserD_eqD) (defScope s_UserD_eqD) .none kV_UserD_eqD dc_UserD_eqD pm_UserD_eqD an_UserD_eqD cd_UserD_eqD ct_UserD_eqD), sl_UserD_eqD⟩)
    (co_UserD_eqD : PySem.W.codeIn K cd_UserD_eqD "User.__eq__" = true)
    (kp_UserD_eqD : PySem.W.keepIn K (.ref f_UserD_eqD) = true)
    (fi_UserD_eqD : PySem.W.isFn K (.ref f_UserD_eqD) = true)
    (in0 : PySem.W.specialIn K (.builtin "object.__class__") "__get__" = some (some (.builtin "getset_descriptor.__get__")))
    (it0 : PySem.W.takesIn K (.builtin "object.__class__") = some true)
    (a_LETTERS : PySem.W.nsIn K mainGlobals "LETTERS" = some (some (.str "abcdefghijklmnopqrstuvwxyz" tk_LT)))
    (a_BadUser : PySem.W.nsIn K mainGlobals "BadUser" = some (some (.ref x_BadUser)))
    (a_BadInput : PySem.W.nsIn K mainGlobals "BadInput" = some (some (.ref x_BadInput)))
    (a_ModesError : PySem.W.nsIn K mainGlobals "ModesError" = some (some (.ref x_ModesError)))
    (xl_B : K.lookup x_BadUser = some (excClassObj nmB qB x_BadUser NB bsB bmB true snB subB abB colB ddB m0B m1B m2B m3B m5B "ValueError.__new__"))
    (rf_B : PySem.HandSPX.refsVE bmB = true)
    (sa_B : PySem.W.findIn K (.ref x_BadUser) "__setattr__" = some (some (.builtin "object.__setattr__")))
    (ex_B : PySem.W.subIn K (.ref x_BadUser) (.type "BaseException") = some true)
    (ty_B : PySem.W.typeIn K (.ref x_BadUser) = some (.type "type"))
    (kp_B : PySem.W.keepIn K (.ref x_BadUser) = true)
    (ga_B : PySem.W.findIn K (.ref x_BadUser) "__getattribute__" = some (some (.builtin "BaseException.__getattribute__")))
    (gg_B : PySem.W.findIn K (.ref x_BadUser) "__getattr__" = some none)
    (hd_B : PySem.W.hasDictIn K x_BadUser = true)
    (cc_B : PySem.W.findIn K (.ref x_BadUser) "__class__" = some (some (.builtin "object.__class__")))
    (mr_B : PySem.W.mroIn K x_BadUser (.type "object") = some true)
    (np_B : PySem.W.findIn K (.ref x_BadUser) "part" = some none)
    (in_B : PySem.W.findIn K (.ref x_BadUser) "__init__" = some (some (.ref f_BadUserD_initD)))
    (ti_B : PySem.W.typeIn K (.ref f_BadUserD_initD) = some (.type "function"))
    (l_BadUserD_initD : K.lookup f_BadUserD_initD = some ⟨oc_BadUserD_initD, od_BadUserD_initD, .func (PySem.W.fnOf "__init__" "BadUser.__init__" (defArgs s_BadUserD_initD) (defBody s_BadUserD_initD) (defScope s_BadUserD_initD) .none kV_BadUserD_initD dc_BadUserD_initD pm_BadUserD_initD an_BadUserD_initD cd_BadUserD_initD ct_BadUserD_initD), sl_BadUserD_initD⟩)
    (co_BadUserD_initD : PySem.W.codeIn K cd_BadUserD_initD "BadUser.__init__" = true)
    (kp_BadUserD_initD : PySem.W.keepIn K (.ref f_BadUserD_initD) = true)
    (cix_ModesError : PySem.W.clsIn K x_ModesError = some cdx_ModesError)
    (tix_ModesError : PySem.W.typeIn K (.ref x_ModesError) = some (.type "type"))
    (cix_BadInput : PySem.W.clsIn K x_BadInput = some cdx_BadInput)
    (tix_BadInput : PySem.W.typeIn K (.ref x_BadInput) = some (.type "type"))
    (suBI : PySem.W.subIn K (.ref x_BadUser) (.ref x_BadInput) = some true)
    (neBI : x_BadUser ≠ x_BadInput)
    (suVE : PySem.W.subIn K (.ref x_BadUser) (.type "ValueError") = some true)
    (bex_ME : PySem.W.subIn K (.ref x_ModesError) (.type "BaseException") = some true)
    (sux_ME : PySem.W.subIn K (.ref x_BadUser) (.ref x_ModesError) = some true)
    (a_law : PySem.W.nsIn K mainGlobals "law" = some (some (.ref f_law)))
    (l_law : K.lookup f_law = some ⟨oc_law, od_law, .func (PySem.W.fnOf "law" "law" (defArgs s_law) (defBody s_law) (defScope s_law) .none kV_law dc_law pm_law an_law cd_law ct_law), sl_law⟩)
    (co_law : PySem.W.codeIn K cd_law "law" = true)
    (kp_law : PySem.W.keepIn K (.ref f_law) = true)
    : KD.LawTop l w K "_law_script" mg fa h := by
  have e := hfa.symm.trans (PySem.W.mg_of X G a_law)
  obtain rfl : f_law = fa := by cases e; rfl
  have T : Txt l.prog w K mg { f_is_name := f_is_name, d_is_name := PySem.W.fnOf "is_name" "is_name" (defArgs s_is_name) (defBody s_is_name) (defScope s_is_name) .none kV_is_name dc_is_name pm_is_name an_is_name cd_is_name ct_is_name, f_are_unlike_names := f_are_unlike_names, d_are_unlike_names := PySem.W.fnOf "are_unlike_names" "are_unlike_names" (defArgs s_are_unlike_names) (defBody s_are_unlike_names) (defScope s_are_unlike_names) .none kV_are_unlike_names dc_are_unlike_names pm_are_unlike_names an_are_unlike_names cd_are_unlike_names ct_are_unlike_names, f__law_pen := f__law_pen, d__law_pen := PySem.W.fnOf "_law_pen" "_law_pen" (defArgs s__law_pen) (defBody s__law_pen) (defScope s__law_pen) .none kV__law_pen dc__law_pen pm__law_pen an__law_pen cd__law_pen ct__law_pen, f__law_draw := f__law_draw, d__law_draw := PySem.W.fnOf "_law_draw" "_law_draw" (defArgs s__law_draw) (defBody s__law_draw) (defScope s__law_draw) .none kV__law_draw dc__law_draw pm__law_draw an__law_draw cd__law_draw ct__law_draw, f__law_pick := f__law_pick, d__law_pick := PySem.W.fnOf "_law_pick" "_law_pick" (defArgs s__law_pick) (defBody s__law_pick) (defScope s__law_pick) .none kV__law_pick dc__law_pick pm__law_pick an__law_pick cd__law_pick ct__law_pick, f__law_drawn_name := f__law_drawn_name, d__law_drawn_name := PySem.W.fnOf "_law_drawn_name" "_law_drawn_name" (defArgs s__law_drawn_name) (defBody s__law_drawn_name) (defScope s__law_drawn_name) .none kV__law_drawn_name dc__law_drawn_name pm__law_drawn_name an__law_drawn_name cd__law_drawn_name ct__law_drawn_name, f__law_is_name := f__law_is_name, d__law_is_name := PySem.W.fnOf "_law_is_name" "_law_is_name" (defArgs s__law_is_name) (defBody s__law_is_name) (defScope s__law_is_name) .none kV__law_is_name dc__law_is_name pm__law_is_name an__law_is_name cd__law_is_name ct__law_is_name, f__law_wrong_part := f__law_wrong_part, d__law_wrong_part := PySem.W.fnOf "_law_wrong_part" "_law_wrong_part" (defArgs s__law_wrong_part) (defBody s__law_wrong_part) (defScope s__law_wrong_part) .none kV__law_wrong_part dc__law_wrong_part pm__law_wrong_part an__law_wrong_part cd__law_wrong_part ct__law_wrong_part, f__law_made_user := f__law_made_user, d__law_made_user := PySem.W.fnOf "_law_made_user" "_law_made_user" (defArgs s__law_made_user) (defBody s__law_made_user) (defScope s__law_made_user) .none kV__law_made_user dc__law_made_user pm__law_made_user an__law_made_user cd__law_made_user ct__law_made_user, f__law_heard := f__law_heard, d__law_heard := PySem.W.fnOf "_law_heard" "_law_heard" (defArgs s__law_heard) (defBody s__law_heard) (defScope s__law_heard) .none kV__law_heard dc__law_heard pm__law_heard an__law_heard cd__law_heard ct__law_heard, f__law_right := f__law_right, d__law_right := PySem.W.fnOf "_law_right" "_law_right" (defArgs s__law_right) (defBody s__law_right) (defScope s__law_right) .none kV__law_right dc__law_right pm__law_right an__law_right cd__law_right ct__law_right, f_User := f_User, f_UserD_initD := f_UserD_initD, c_UserD_initD := c_UserD_initD, d_UserD_initD := PySem.W.fnX "__init__" "User.__init__" (defArgs s_UserD_initD) (defBody s_UserD_initD) (defScope s_UserD_initD) [] .none kV_UserD_initD dc_UserD_initD pm_UserD_initD an_UserD_initD (.ref c_UserD_initD) ct_UserD_initD, f_User_name := f_User_name, d_User_name := PySem.W.fnOf "name" "User.name" (defArgs s_User_name) (defBody s_User_name) (defScope s_User_name) .none kV_User_name dc_User_name pm_User_name an_User_name cd_User_name ct_User_name, p_User_name := p_User_name, f_User_groups := f_User_groups, d_User_groups := PySem.W.fnOf "groups" "User.groups" (defArgs s_User_groups) (defBody s_User_groups) (defScope s_User_groups) .none kV_User_groups dc_User_groups pm_User_groups an_User_groups cd_User_groups ct_User_groups, p_User_groups := p_User_groups, f_Chief := f_Chief, f_ChiefD_initD := f_ChiefD_initD, cc_ChiefD_initD := cc_ChiefD_initD, c_ChiefD_initD := c_ChiefD_initD, d_ChiefD_initD := PySem.W.fnX "__init__" "Chief.__init__" (defArgs s_ChiefD_initD) (defBody s_ChiefD_initD) (defScope s_ChiefD_initD) [("__class__", cc_ChiefD_initD)] .none kV_ChiefD_initD dc_ChiefD_initD pm_ChiefD_initD an_ChiefD_initD (.ref c_ChiefD_initD) ct_ChiefD_initD, f_UserD_eqD := f_UserD_eqD, d_UserD_eqD := PySem.W.fnOf "__eq__" "User.__eq__" (defArgs s_UserD_eqD) (defBody s_UserD_eqD) (defScope s_UserD_eqD) .none kV_UserD_eqD dc_UserD_eqD pm_UserD_eqD an_UserD_eqD cd_UserD_eqD ct_UserD_eqD, x_BadUser := x_BadUser, x_BadInput := x_BadInput, x_ModesError := x_ModesError, f_BadUserD_initD := f_BadUserD_initD, d_BadUserD_initD := PySem.W.fnOf "__init__" "BadUser.__init__" (defArgs s_BadUserD_initD) (defBody s_BadUserD_initD) (defScope s_BadUserD_initD) .none kV_BadUserD_initD dc_BadUserD_initD pm_BadUserD_initD an_BadUserD_initD cd_BadUserD_initD ct_BadUserD_initD } := {
    b_isinstance := PySem.W.mg_none_of X G z_isinstance,
    b_int := PySem.W.mg_none_of X G z_int,
    b_str := PySem.W.mg_none_of X G z_str,
    b_list := PySem.W.mg_none_of X G z_list,
    b_len := PySem.W.mg_none_of X G z_len,
    b_abs := PySem.W.mg_none_of X G z_abs,
    b_range := PySem.W.mg_none_of X G z_range,
    b_tuple := PySem.W.mg_none_of X G z_tuple,
    b_all := PySem.W.mg_none_of X G z_all,
    b_set := PySem.W.mg_none_of X G z_set,
    b_repr := PySem.W.mg_none_of X G z_repr,
    b_super := PySem.W.mg_none_of X G z_super,
    b_sorted := PySem.W.mg_none_of X G z_sorted,
    b_ValueError := PySem.W.mg_none_of X G z_ValueError,
    mg_is_name := PySem.W.mg_of X G a_is_name,
    fn_is_name := fun_mk (st := s_is_name) l_is_name co_is_name kp_is_name,
    mg_are_unlike_names := PySem.W.mg_of X G a_are_unlike_names,
    fn_are_unlike_names := fun_mk (st := s_are_unlike_names) l_are_unlike_names co_are_unlike_names kp_are_unlike_names,
    mg__law_pen := PySem.W.mg_of X G a__law_pen,
    fn__law_pen := fun_mk (st := s__law_pen) l__law_pen co__law_pen kp__law_pen,
    mg__law_draw := PySem.W.mg_of X G a__law_draw,
    fn__law_draw := fun_mk (st := s__law_draw) l__law_draw co__law_draw kp__law_draw,
    mg__law_pick := PySem.W.mg_of X G a__law_pick,
    fn__law_pick := fun_mk (st := s__law_pick) l__law_pick co__law_pick kp__law_pick,
    mg__law_drawn_name := PySem.W.mg_of X G a__law_drawn_name,
    fn__law_drawn_name := fun_mk (st := s__law_drawn_name) l__law_drawn_name co__law_drawn_name kp__law_drawn_name,
    mg__law_is_name := PySem.W.mg_of X G a__law_is_name,
    fn__law_is_name := fun_mk (st := s__law_is_name) l__law_is_name co__law_is_name kp__law_is_name,
    mg__law_wrong_part := PySem.W.mg_of X G a__law_wrong_part,
    fn__law_wrong_part := fun_mk (st := s__law_wrong_part) l__law_wrong_part co__law_wrong_part kp__law_wrong_part,
    mg__law_made_user := PySem.W.mg_of X G a__law_made_user,
    fn__law_made_user := fun_mk (st := s__law_made_user) l__law_made_user co__law_made_user kp__law_made_user,
    mg__law_heard := PySem.W.mg_of X G a__law_heard,
    fn__law_heard := fun_mk (st := s__law_heard) l__law_heard co__law_heard kp__law_heard,
    mg__law_right := PySem.W.mg_of X G a__law_right,
    fn__law_right := fun_mk (st := s__law_right) l__law_right co__law_right kp__law_right,
    mg_User := PySem.W.mg_of X G a_User,
    c_User := ⟨pg_User, hd_User, po_User, sa_User⟩,
    n_name_User := n_name_User,
    n_groups_User := n_groups_User,
    mk_User := ⟨mk_User, at_UserD_initD, fi_UserD_initD, kc_User⟩,
    fn_UserD_initD := ⟨_, _, _, _, _, _, _, _, rfl, l_UserD_initD, co_UserD_initD⟩,
    p_User_name := ⟨at_User_name, ge_User_name, ta_User_name, ⟨_, rc_User_name⟩⟩,
    fn_User_name := fun_mk (st := s_User_name) l_User_name co_User_name kp_User_name,
    p_User_groups := ⟨at_User_groups, ge_User_groups, ta_User_groups, ⟨_, rc_User_groups⟩⟩,
    fn_User_groups := fun_mk (st := s_User_groups) l_User_groups co_User_groups kp_User_groups,
    r_User := ⟨rd_User, ga_User⟩,
    k_User_GROUPS := ⟨_, ⟨cv_User_GROUPS, ⟨_, rfl⟩⟩⟩,
    mg_Chief := PySem.W.mg_of X G a_Chief,
    c_Chief := ⟨pg_Chief, hd_Chief, po_Chief, sa_Chief⟩,
    n_name_Chief := n_name_Chief,
    n_groups_Chief := n_groups_Chief,
    mk_Chief := ⟨mk_Chief, at_ChiefD_initD, fi_ChiefD_initD, kc_Chief⟩,
    su_ChiefD_initD := ⟨⟨_, _, _, l_ChiefD_initD⟩, ⟨_, _, _, _, _, rfl⟩, co_ChiefD_initD, ⟨_, _, _, _, _, _, lf_ChiefD_initD, v2_ChiefD_initD, fl_e_ChiefD_initD⟩, rfl, ⟨_, _, _, lc_ChiefD_initD⟩, ⟨_, ci_Chief⟩, top_super⟩,
    sm_ChiefD_initD := ⟨any0, sat_ChiefD_initD, sty_ChiefD_initD, by decide, subC, sfn_ChiefD_initD⟩,
    ia_User := ia_User,
    im_User := im_User,
    nt_User_str := kit_noT ci_User ti_User sn_User_str,
    nt_User_tuple := kit_noT ci_User ti_User sn_User_tuple,
    nt_User_int := kit_noT ci_User ti_User sn_User_int,
    nt_User_NoneType := kit_noT ci_User ti_User sn_User_NoneType,
    nt_User_list := kit_noT ci_User ti_User sn_User_list,
    nt_User_dict := kit_noT ci_User ti_User sn_User_dict,
    nf_User_str := nf_User_str,
    nf_User_tuple := nf_User_tuple,
    e_User := e_User,
    en_User := en_User,
    ki_User_User := kit_self,
    ia_Chief := ia_Chief,
    im_Chief := im_Chief,
    nt_Chief_str := kit_noT ci_Chief ti_Chief sn_Chief_str,
    nt_Chief_tuple := kit_noT ci_Chief ti_Chief sn_Chief_tuple,
    nt_Chief_int := kit_noT ci_Chief ti_Chief sn_Chief_int,
    nt_Chief_NoneType := kit_noT ci_Chief ti_Chief sn_Chief_NoneType,
    nt_Chief_list := kit_noT ci_Chief ti_Chief sn_Chief_list,
    nt_Chief_dict := kit_noT ci_Chief ti_Chief sn_Chief_dict,
    nf_Chief_str := nf_Chief_str,
    nf_Chief_tuple := nf_Chief_tuple,
    e_Chief := e_Chief,
    en_Chief := en_Chief,
    ki_Chief_Chief := kit_self,
    p_Chief_name := ⟨atc_User_name, ge_User_name, ta_User_name, ⟨_, rc_User_name⟩⟩,
    p_Chief_groups := ⟨atc_User_groups, ge_User_groups, ta_User_groups, ⟨_, rc_User_groups⟩⟩,
    ne_User_Chief := neUC,
    ki_Chief_User := kit_ref ci_User ti_User suCU (Ne.symm neUC),
    ki_User_Chief := kit_ref ci_Chief ti_Chief suUC neUC,
    nf_Chief_User := nfCU,
    mro_Chief_User := mroCU,
    fn_UserD_eqD := fun_mk (st := s_UserD_eqD) l_UserD_eqD co_UserD_eqD kp_UserD_eqD,
    ef_ := fi_UserD_eqD,
    in_ := in0,
    it_ := it0,
    mg_LETTERS := ⟨_, PySem.W.mg_of X G a_LETTERS⟩,
    mg_BadUser := PySem.W.mg_of X G a_BadUser,
    mg_BadInput := PySem.W.mg_of X G a_BadInput,
    mg_ModesError := PySem.W.mg_of X G a_ModesError,
    ks_BadUser := kit_self,
    ks_BadInput := kit_ref cix_BadInput tix_BadInput suBI neBI,
    ks_ValueError := kit_ve suVE,
    ec_BadUser := ⟨ga_B, gg_B, ex_B, hd_B, cc_B, in0, it0, mr_B⟩,
    ox_BadUser := ⟨⟨_, _, _, _, _, _, _, _, _, _, _, _, _, _, _, xl_B, rf_B⟩, sa_B, ex_B, ty_B, kp_B⟩,
    ic_BadUser := in_B,
    it_BadUser := ti_B,
    np_BadUser := np_B,
    em_BadUser := exm_ref bex_ME cix_ModesError tix_ModesError sux_ME,
    fn_BadUserD_initD := fun_mk (st := s_BadUserD_initD) l_BadUserD_initD co_BadUserD_initD kp_BadUserD_initD
  }
  exact ⟨PySem.W.fnOf "law" "law" (defArgs s_law) (defBody s_law) (defScope s_law) .none kV_law dc_law pm_law an_law cd_law ct_law, [], spLaw K, fun p hp => (nomatch hp), fun p hp => (nomatch hp), fun p hp => (nomatch hp), fun s v => .of_eq rfl, fun H b ns hl hT hS => ⟨b, ns, rfl, hS, hl, fun _ => rfl⟩, fun base _ _ TB => (ok_law T l_law co_law).run callerA rfl ⟨rfl, by decide, by decide⟩⟩
end KI
open PySem PySem.W PyProof.Rows
set_option maxRecDepth 100000 in
set_option maxHeartbeats 0 in
theorem PySem.Challenge.cw_modesdown_k12_users_made_holds : PySem.Challenge.rw_modesdown_k12_users_made.Holds := by
  w_on; o_law; k_head; (case hw => w_witness2)
  k_fill
  refine KD.walk_tabs (x := "_law_script") rfl rfl (fun w h Y => PySem.W.kIn_of Y) ?F
  case F =>
    intro w mg fa h Y kIn G hmg
    refine' KI.all_mk kIn G hmg ?z_isinstance ?z_int ?z_str ?z_list ?z_len ?z_abs ?z_range ?z_tuple ?z_all ?z_set ?z_repr ?z_super ?z_sorted ?z_ValueError ?a_is_name ?l_is_name ?co_is_name ?kp_is_name ?a_are_unlike_names ?l_are_unlike_names ?co_are_unlike_names ?kp_are_unlike_names ?a__law_pen ?l__law_pen ?co__law_pen ?kp__law_pen ?a__law_draw ?l__law_draw ?co__law_draw ?kp__law_draw ?a__law_pick ?l__law_pick ?co__law_pick ?kp__law_pick ?a__law_drawn_name ?l__law_drawn_name ?co__law_drawn_name ?kp__law_drawn_name ?a__law_is_name ?l__law_is_name ?co__law_is_name ?kp__law_is_name ?a__law_wrong_part ?l__law_wrong_part ?co__law_wrong_part ?kp__law_wrong_part ?a__law_made_user ?l__law_made_user ?co__law_made_user ?kp__law_made_user ?a__law_heard ?l__law_heard ?co__law_heard ?kp__law_heard ?a__law_right ?l__law_right ?co__law_right ?kp__law_right ?a_User ?pg_User ?hd_User ?po_User ?sa_User ?ci_User ?n_name_User ?n_groups_User ?at_UserD_initD ?fi_UserD_initD ?mk_User ?kc_User ?l_UserD_initD ?co_UserD_initD ?at_User_name ?ge_User_name ?ta_User_name ?rc_User_name ?l_User_name ?co_User_name ?kp_User_name ?at_User_groups ?ge_User_groups ?ta_User_groups ?rc_User_groups ?l_User_groups ?co_User_groups ?kp_User_groups ?rd_User ?ga_User ?cv_User_GROUPS ?a_Chief ?pg_Chief ?hd_Chief ?po_Chief ?sa_Chief ?ci_Chief ?n_name_Chief ?n_groups_Chief ?at_ChiefD_initD ?fi_ChiefD_initD ?mk_Chief ?kc_Chief ?top_super ?any0 ?subC ?l_ChiefD_initD ?co_ChiefD_initD ?lf_ChiefD_initD ?v2_ChiefD_initD ?fl_e_ChiefD_initD ?lc_ChiefD_initD ?sat_ChiefD_initD ?sty_ChiefD_initD ?sfn_ChiefD_initD ?ia_User ?im_User ?ti_User ?sn_User_str ?sn_User_tuple ?sn_User_int ?sn_User_NoneType ?sn_User_list ?sn_User_dict ?nf_User_str ?nf_User_tuple ?e_User ?en_User ?ia_Chief ?im_Chief ?ti_Chief ?sn_Chief_str ?sn_Chief_tuple ?sn_Chief_int ?sn_Chief_NoneType ?sn_Chief_list ?sn_Chief_dict ?nf_Chief_str ?nf_Chief_tuple ?e_Chief ?en_Chief ?atc_User_name ?atc_User_groups ?neUC ?suCU ?suUC ?nfCU ?mroCU ?l_UserD_eqD ?co_UserD_eqD ?kp_UserD_eqD ?fi_UserD_eqD ?in0 ?it0 ?a_LETTERS ?a_BadUser ?a_BadInput ?a_ModesError ?xl_B ?rf_B ?sa_B ?ex_B ?ty_B ?kp_B ?ga_B ?gg_B ?hd_B ?cc_B ?mr_B ?np_B ?in_B ?ti_B ?l_BadUserD_initD ?co_BadUserD_initD ?kp_BadUserD_initD ?cix_ModesError ?tix_ModesError ?cix_BadInput ?tix_BadInput ?suBI ?neBI ?suVE ?bex_ME ?sux_ME ?a_law ?l_law ?co_law ?kp_law
    (case z_isinstance => k_is)
    (case z_int => k_is)
    (case z_str => k_is)
    (case z_list => k_is)
    (case z_len => k_is)
    (case z_abs => k_is)
    (case z_range => k_is)
    (case z_tuple => k_is)
    (case z_all => k_is)
    (case z_set => k_is)
    (case z_repr => k_is)
    (case z_super => k_is)
    (case z_sorted => k_is)
    (case z_ValueError => k_is)
    (case a_is_name => k_is)
    (case l_is_name => k_is)
    (case co_is_name => k_is)
    (case kp_is_name => k_is)
    (case a_are_unlike_names => k_is)
    (case l_are_unlike_names => k_is)
    (case co_are_unlike_names => k_is)
    (case kp_are_unlike_names => k_is)
    (case a__law_pen => k_is)
    (case l__law_pen => k_is)
    (case co__law_pen => k_is)
    (case kp__law_pen => k_is)
    (case a__law_draw => k_is)
    (case l__law_draw => k_is)
    (case co__law_draw => k_is)
    (case kp__law_draw => k_is)
    (case a__law_pick => k_is)
    (case l__law_pick => k_is)
    (case co__law_pick => k_is)
    (case kp__law_pick => k_is)
    (case a__law_drawn_name => k_is)
    (case l__law_drawn_name => k_is)
    (case co__law_drawn_name => k_is)
    (case kp__law_drawn_name => k_is)
    (case a__law_is_name => k_is)
    (case l__law_is_name => k_is)
    (case co__law_is_name => k_is)
    (case kp__law_is_name => k_is)
    (case a__law_wrong_part => k_is)
    (case l__law_wrong_part => k_is)
    (case co__law_wrong_part => k_is)
    (case kp__law_wrong_part => k_is)
    (case a__law_made_user => k_is)
    (case l__law_made_user => k_is)
    (case co__law_made_user => k_is)
    (case kp__law_made_user => k_is)
    (case a__law_heard => k_is)
    (case l__law_heard => k_is)
    (case co__law_heard => k_is)
    (case kp__law_heard => k_is)
    (case a__law_right => k_is)
    (case l__law_right => k_is)
    (case co__law_right => k_is)
    (case kp__law_right => k_is)
    (case a_User => k_is)
    (case pg_User => k_is)
    (case hd_User => k_is)
    (case po_User => k_is)
    (case sa_User => k_is)
    (case ci_User => k_is)
    (case n_name_User => k_is)
    (case n_groups_User => k_is)
    (case at_UserD_initD => k_is)
    (case fi_UserD_initD => k_is)
    (case mk_User => k_is)
    (case kc_User => k_is)
    (case l_UserD_initD => k_is)
    (case co_UserD_initD => k_is)
    (case at_User_name => k_is)
    (case ge_User_name => k_is)
    (case ta_User_name => k_is)
    (case rc_User_name => k_is)
    (case l_User_name => k_is)
    (case co_User_name => k_is)
    (case kp_User_name => k_is)
    (case at_User_groups => k_is)
    (case ge_User_groups => k_is)
    (case ta_User_groups => k_is)
    (case rc_User_groups => k_is)
    (case l_User_groups => k_is)
    (case co_User_groups => k_is)
    (case kp_User_groups => k_is)
    (case rd_User => k_is)
    (case ga_User => k_is)
    (case cv_User_GROUPS => k_is)
    (case a_Chief => k_is)
    (case pg_Chief => k_is)
    (case hd_Chief => k_is)
    (case po_Chief => k_is)
    (case sa_Chief => k_is)
    (case ci_Chief => k_is)
    (case n_name_Chief => k_is)
    (case n_groups_Chief => k_is)
    (case at_ChiefD_initD => k_is)
    (case fi_ChiefD_initD => k_is)
    (case mk_Chief => k_is)
    (case kc_Chief => k_is)
    (case top_super => first | rfl | decide +kernel)
    (case any0 => first | k_is | kernel_rfl | rfl)
    (case subC => first | k_is | kernel_rfl | rfl)
    (case l_ChiefD_initD => k_is)
    (case co_ChiefD_initD => k_is)
    (case lf_ChiefD_initD => k_is)
    (case v2_ChiefD_initD => rfl)
    (case fl_e_ChiefD_initD => first | rfl | decide +kernel)
    (case lc_ChiefD_initD => k_is)
    (case sat_ChiefD_initD => first | k_is | kernel_rfl | rfl)
    (case sty_ChiefD_initD => k_is)
    (case sfn_ChiefD_initD => k_is)
    (case ia_User => k_is)
    (case im_User => k_is)
    (case ti_User => k_is)
    (case sn_User_str => k_is)
    (case sn_User_tuple => k_is)
    (case sn_User_int => k_is)
    (case sn_User_NoneType => k_is)
    (case sn_User_list => k_is)
    (case sn_User_dict => k_is)
    (case nf_User_str => k_is)
    (case nf_User_tuple => k_is)
    (case e_User => k_is)
    (case en_User => k_is)
    (case ia_Chief => k_is)
    (case im_Chief => k_is)
    (case ti_Chief => k_is)
    (case sn_Chief_str => k_is)
    (case sn_Chief_tuple => k_is)
    (case sn_Chief_int => k_is)
    (case sn_Chief_NoneType => k_is)
    (case sn_Chief_list => k_is)
    (case sn_Chief_dict => k_is)
    (case nf_Chief_str => k_is)
    (case nf_Chief_tuple => k_is)
    (case e_Chief => k_is)
    (case en_Chief => k_is)
    (case atc_User_name => k_is)
    (case atc_User_groups => k_is)
    (case neUC => decide)
    (case suCU => k_is)
    (case suUC => k_is)
    (case nfCU => k_is)
    (case mroCU => k_is)
    (case l_UserD_eqD => k_is)
    (case co_UserD_eqD => k_is)
    (case kp_UserD_eqD => k_is)
    (case fi_UserD_eqD => k_is)
    (case in0 => k_is)
    (case it0 => k_is)
    (case a_LETTERS => k_is)
    (case a_BadUser => k_is)
    (case a_BadInput => k_is)
    (case a_ModesError => k_is)
    (case xl_B => k_is)
    (case rf_B => decide +kernel)
    (case sa_B => k_is)
    (case ex_B => k_is)
    (case ty_B => k_is)
    (case kp_B => k_is)
    (case ga_B => k_is)
    (case gg_B => k_is)
    (case hd_B => k_is)
    (case cc_B => k_is)
    (case mr_B => k_is)
    (case np_B => k_is)
    (case in_B => k_is)
    (case ti_B => k_is)
    (case l_BadUserD_initD => k_is)
    (case co_BadUserD_initD => k_is)
    (case kp_BadUserD_initD => k_is)
    (case cix_ModesError => k_is)
    (case tix_ModesError => k_is)
    (case cix_BadInput => k_is)
    (case tix_BadInput => k_is)
    (case suBI => k_is)
    (case neBI => decide)
    (case suVE => k_is)
    (case bex_ME => k_is)
    (case sux_ME => k_is)
    (case a_law => k_is)
    (case l_law => k_is)
    (case co_law => k_is)
    (case kp_law => k_is)
