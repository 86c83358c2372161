import PyProof.Rows.All
import HandS.MethStar
import HandS.SlotsOwn
import HandS.Star
import HandS.More
import HandS.IsInst
import KE.KCallOwn
import KE.KxField
import HandS.FStr
import PyProof.Rows.StrIntSpec
import PyProof.FString3
import PyProof.FactsAll.int_2
import KE.KxWritten
import HandS.Lambda
import HandS.Codes
import HandS.Words
import HandS.EndTab
import HandS.EndBits
import HandS.NestedK
import KE.KNestM
import PyProof.ReprRoads
import PyProof.ListStr
import Wide.All
import OpenK.AllK
import Wide.FinOn
import HandS.ForMost
import HandS.Property
import HandS.ClsMeth
import HandS.Conv
import HandS.Wide
import HandS.WideBits
import HandS.Flow
import HandS.Evl
import HandS.Zip
import HandS.Strs
import HandS.ExcInit
import HandS.WordsExc
import HandS.ExcIs
import KE.KDictKeyed
import KE.KExcIs
import KE.GoesEnum
import HandS.NoneIn
import HandS.MakeKwOnly

import PySem.Challenge.RW_modesdown_k01_modes_made

set_option Elab.async false
set_option linter.all false
set_option maxRecDepth 100000
set_option maxHeartbeats 4000000
namespace KD
open PySem PySem.Spec PyProof.Rows L2
section
open PySem.W PySem.Calls Builtin
variable {prog : Program} {w : World} {A : Around} {E : Value → Shared → Prop} {s : Shared} {K : Frag} {x C L f : Addr} {h₀ : Heap} {m : Str → Option Value} {ox : Obj} {od : Option Obj}
theorem bool_own {Q : Value → Shared → Prop} (F : Fr h₀ L s.heap m) (X₀ : K.In h₀) (I : InstAt s.heap x ox C od) (hs : findIn K (.ref C) "__bool__" = some (some (.ref f))) (hf : isFn K (.ref f) = true)
    (h : wpAny (model prog w) A.in1.in1 (call (.ref f) [.ref x]) (PySem.W.BoolBack fun b s' => Q (.bool b) s') E s) : wpAny (model prog w) A (call (.type "bool") [.ref x]) Q E s := by
  refine callType_codes (T := "bool") (Bi := Builtin.«object.__init__») (Q₁ := fun r s₁ => ∃ b, r = .bool b ∧ Q r s₁) PySem.F.called_bool (PySem.F.typeCall_bool_1 _) PySem.F.entry_object_init ?_ ?_
  · refine codeAny_of_tree ?_
    show wpAny _ A.in1.in1 (do checkBuiltinCall "bool.__new__" ⟨[.type "bool", .ref x], []⟩; again (.builtin "bool.__new__" ⟨[.type "bool", .ref x], []⟩)) _ _ s
    refine wpAny_bind (wpAny_of_eq (PySem.F.newCall_bool_1 _) (wpAny_pure ⟨plainId_quiet (by decide +kernel) _, codeAny_builtin PySem.F.entry_bool_new ?_⟩))
    rw [Around.under_plainId (by decide +kernel) _]
    unfold Builtin.«bool.__new__»
    refine wpAny_bind (m := isType _) (wpAny_pure ?_)
    refine wpAny_bind (wpAny_of_eq PySem.F.conv_sub_bool ?_)
    refine wpAny_bind (m := someArgs _ _ _ _) (wpAny_pure ?_)
    refine wpAny_bind (truthy_K F X₀ I hs hf (wpAny_mono h (fun r s₁ hr => ?_) fun _ _ y => y))
    cases r <;> first | exact hr.elim | exact wpAny_pure ⟨_, rfl, hr⟩
  · rintro obj s₁ ⟨b, rfl, hq⟩
    exact ⟨PySem.typeIs_bool _ _, PySem.F.args_object_init_2 _ _, object_init_meets PySem.F.called_bool.init.lookup PySem.F.called_bool.made (by decide) prog w A.in1 _ s₁ ⟨PySem.typeIs_bool _ _, rfl, hq⟩⟩
end
section
variable {X : Cx} {CX : CXT} {C g : Addr} {n : Nat} {sp : Sp} {E : XK}
/-- repr, len, bool of an own instance -/
def rReprOwn (C : Addr) (sp : Sp) (E : XK) : List V → Hp → VK → Prop := fun xs H Q => ∃ a dx fs, xs = [V.ref a] ∧ H a = some (.ins C dx fs) ∧ sp [.ref a] H (fun z H' => ∃ s, z = .str s ∧ Q z H') E
def rLenOwn (C : Addr) (sp : Sp) (E : XK) : List V → Hp → VK → Prop := fun xs H Q => ∃ a dx fs, xs = [V.ref a] ∧ H a = some (.ins C dx fs) ∧ sp [.ref a] H (fun z H' => ∃ n : Int, z = .int n ∧ 0 ≤ n ∧ n < 2 ^ 63 ∧ Q z H') E
def rBoolOwn (C : Addr) (sp : Sp) (E : XK) : List V → Hp → VK → Prop := fun xs H Q => ∃ a dx fs, xs = [V.ref a] ∧ H a = some (.ins C dx fs) ∧ sp [.ref a] H (fun z H' => ∃ b, z = .bl b ∧ Q z H') E
theorem call_reprOwn (hs : PySem.W.findIn X.K (.ref C) "__repr__" = some (some (.ref g))) (hf : PySem.W.isFn X.K (.ref g) = true) (F : FnR X.prog X.w X.K X.mg X.base CX n g sp) (hr : Room (n + 1) X.A) (hx : Passes CX X E) : CallR X (.builtin "repr") (rReprOwn C sp E) := by
  intro pins s σ H xs us Q I r start
  obtain ⟨a, dx, fs, rfl, hsl, q⟩ := start
  obtain ⟨u, rfl, ru⟩ := r.one
  obtain rfl : u = Value.ref a := ru
  obtain ⟨ox, od, J, _⟩ := StX.insC_at (X := X) I (.inr ⟨dx, fs, hsl⟩)
  have low : Room n X.A.in1 := Room.in1 hr
  obtain ⟨m, hF⟩ := I.fr
  refine PySem.W.repr_K low.units0 hF I.ok.mod.kin J hs hf (wpAny_mono (wpAny_call (SlX.run_at (us := [.ref a]) (ws := [.ref a]) F low I.env0.in1 hx I (.cons rfl .nil) q)) (fun w s' z => ?_) fun _ _ x => x)
  obtain ⟨z', H', I', rz, s2, ei, qz⟩ := z
  subst ei
  obtain ⟨t, e⟩ := (show ∃ t, w = Value.str s2 t from rz)
  cases e
  exact ⟨.str s2, H', I', ⟨t, rfl⟩, qz⟩
theorem call_lenOwn (hs : PySem.W.findIn X.K (.ref C) "__len__" = some (some (.ref g))) (hf : PySem.W.isFn X.K (.ref g) = true) (F : FnR X.prog X.w X.K X.mg X.base CX n g sp) (hr : Room (n + 1) X.A) (hx : Passes CX X E) : CallR X (.builtin "len") (rLenOwn C sp E) := by
  intro pins s σ H xs us Q I r start
  obtain ⟨a, dx, fs, rfl, hsl, q⟩ := start
  obtain ⟨u, rfl, ru⟩ := r.one
  obtain rfl : u = Value.ref a := ru
  obtain ⟨ox, od, J, _⟩ := StX.insC_at (X := X) I (.inr ⟨dx, fs, hsl⟩)
  have low : Room n X.A.in1 := Room.in1 hr
  obtain ⟨m, hF⟩ := I.fr
  refine PySem.W.len_K hF I.ok.mod.kin J hs hf (wpAny_mono (wpAny_call (SlX.run_at (us := [.ref a]) (ws := [.ref a]) F low I.env0.in1 hx I (.cons rfl .nil) q)) (fun w s' z => ?_) fun _ _ x => x)
  obtain ⟨z', H', I', rz, i, ei, h0, h1, qz⟩ := z
  subst ei
  obtain ⟨t, e⟩ := (show ∃ t, w = Value.int i t from rz)
  cases e
  exact ⟨⟨h0, h1⟩, .int i, H', I'.tok _, ⟨_, rfl⟩, qz⟩
theorem call_boolOwn (hs : PySem.W.findIn X.K (.ref C) "__bool__" = some (some (.ref g))) (hf : PySem.W.isFn X.K (.ref g) = true) (F : FnR X.prog X.w X.K X.mg X.base CX n g sp) (hr : Room (n + 2) X.A) (hx : Passes CX X E) : CallR X (.type "bool") (rBoolOwn C sp E) := by
  intro pins s σ H xs us Q I r start
  obtain ⟨a, dx, fs, rfl, hsl, q⟩ := start
  obtain ⟨u, rfl, ru⟩ := r.one
  obtain rfl : u = Value.ref a := ru
  obtain ⟨ox, od, J, _⟩ := StX.insC_at (X := X) I (.inr ⟨dx, fs, hsl⟩)
  have low : Room (n + 1) X.A.in1 := Room.in1 hr
  have hr2 : Room n X.A.in1.in1 := low.in1
  obtain ⟨m, hF⟩ := I.fr
  refine bool_own hF I.ok.mod.kin J hs hf (wpAny_mono (wpAny_call (SlX.run_at (us := [.ref a]) (ws := [.ref a]) F hr2 I.env0.in1.in1 hx I (.cons rfl .nil) q)) (fun w s' z => ?_) fun _ _ x => x)
  obtain ⟨z', H', I', rz, b, ei, qz⟩ := z
  subst ei
  obtain rfl : w = Value.bool b := rz
  exact ⟨.bl b, H', I', rfl, qz⟩
end
end KD
set_option Elab.async false
set_option linter.all false
set_option maxRecDepth 100000
set_option maxHeartbeats 4000000
namespace KD
open PySem PySem.Spec PyProof.Rows L2
section
open PySem.W Builtin Builtin.Str Builtin.Int Builtin.Float PySem.Calls
def spec8 : Str := "03o"
def f8 : FormatSpec := { fill := 48, align := 61, width := some 3, type := some 111 }
def octS (n : Nat) : Str := intField' f8 false [] ((Nat.toDigits 8 n).map fun c => (if (111 : Nat) == 88 then c.toUpper else c).toNat) [] 4
theorem f8_is : parseFormatSpec spec8.cps.toList "int" 62 = .ok f8 := by kernel_rfl
theorem f8_ty : f8.type = some 111 ∧ f8.precision.isSome = false ∧ f8.noNeg0 = false ∧ f8.alt = false ∧ (decide (f8.width.getD 0 > 100000)) = false := by decide +kernel
theorem s8_asc : ((spec8.cps.toList.drop 1).any (· ≥ 128) || (spec8.cps.getD 0 0 ≥ 128 && !([60, 62, 61, 94] : List Nat).contains (spec8.cps.getD 1 0))) = false := by decide +kernel
theorem s8_ne : (spec8.length == 0) = false := by decide +kernel
theorem oct_len : ∀ n : Nat, n < 512 → (octS n).length = 3 := by
  have h : ((List.range 512).all fun n => decide ((octS n).length = 3)) = true := by decide +kernel
  exact fun n hn => of_decide_eq_true (List.all_eq_true.mp h n (List.mem_range.mpr hn))
variable {prog : Program} {w : World} {A : Around} {E : Value → Shared → Prop} {s : Shared}
theorem field_oct {n : Nat} {t : Tok} {Q : Value → Shared → Prop} (hn : n < 512) (h : ∀ t' k, Q (.str (octS n) t') { s with toks := k }) : wpAny (model prog w) A (formatField (.int (n : Nat) t) spec8) Q E s := by
  obtain ⟨h1, h2, h3, h4, h5⟩ := f8_ty
  show wpAny _ _ (holding [.int (n : Nat) t] (pyFormat (.int (n : Nat) t) spec8)) Q E s
  refine wpAny_holding ?_
  unfold pyFormat
  refine wpAny_bind (wpAny_mkStr ?_ (by show 3 ≤ sizeLine; decide))
  refine wpAny_bind (m := callSpecial? (.int (n : Nat) t) (Str.ofString "__format__") [.str spec8 s.toks]) (wpAny_callSpecial?_slot (name := Str.ofString "__format__") (PySem.typeIs_int _ _ t) PySem.F.slot_int_format ?_)
  refine wpAny_call (codeAny_call_builtin PySem.F.slot_int_format.plain PySem.F.entry_int_format (PySem.F.slot_int_format.check _ _ _ _ _ _ _ _ (PySem.typeIs_int _ _ t) (PySem.F.args_int_format_2 _ _) ?_))
  unfold Builtin.«int.__format__»
  simp only [selfAndOne, noKeywords, Int.intOfSelf, asInt?, asStr?, List.isEmpty_nil, if_true, pure_bind, bind_pure, bind_assoc, s8_ne, s8_asc, Bool.false_eq_true, if_false,
    show (Value.str spec8 s.toks == Value.none) = false from rfl]
  refine wpAny_bind (wpAny_typeNameOf (T := "str") (PySem.typeIs_str _ _ _) (by decide) fun _ => ?_)
  refine wpAny_bind (wpAny_typeNameOfCut_int ?_)
  simp only [f8_is, h1, Option.getD_some]
  rw [if_pos (by decide)]
  obtain ⟨f, hf⟩ : ∃ f, f = f8 := ⟨_, rfl⟩
  rw [← hf] at h2 h3 h4 h5 ⊢
  show wpAny _ _ (if _ then _ else _) _ _ _
  rw [if_neg (by rw [h2]; decide)]
  show wpAny _ _ (if _ then _ else _) _ _ _
  rw [if_neg (by rw [h3]; decide)]
  show wpAny _ _ (if _ then _ else _) _ _ _
  rw [if_neg (by decide)]
  show wpAny _ _ (if _ then _ else _) _ _ _
  rw [if_neg (by decide)]
  show wpAny _ _ (if _ then _ else _) _ _ _
  rw [if_neg (of_decide_eq_false h5)]
  show wpAny _ _ (retStr _) _ _ _
  subst hf
  refine KXf.ret_text (T := octS n) ?_ ?_ fun t' k => ?_
  · rw [decide_eq_false (show ¬ (n : Int) < 0 by omega)]
    rfl
  · rw [decide_eq_false (show ¬ (n : Int) < 0 by omega)]
    exact Nat.le_trans (Nat.le_of_eq (oct_len n hn)) (by decide)
  · exact wpAny_bind (wpAny_isInstance (PySem.typeIs_str _ _ _) isSubtype_str_str (wpAny_pure (h _ _)))
end
section
variable {X : Cx}
def tOct (te : TE) : TE := fun σ H Q => te σ H fun x H1 => ∃ n : Nat, x = .int (n : Nat) ∧ n < 512 ∧ Q (.str (octS n)) H1
theorem pe_fmt8 {e : Expr} {te : TE} {pos p1 p2 : Pos} {k : Nat} (he : PE X e te) : PE X (.FormattedValue e (-1) (some (.JoinedStr [.Constant (.str "03o") k p1] p2)) pos) (tOct te) := by
  refine ⟨fun pins s σ H Q I h => ?_⟩
  refine wpAny_FormattedValue_spec (thn (he.run pins s σ H _ I h) fun v s1 ⟨x, H1, I1, r1, n, ex, hn, q⟩ => ?_)
  subst ex
  obtain ⟨t, rfl⟩ := r1
  have hs : PE X (.JoinedStr [.Constant (.str "03o") k p1] p2) (tC (.str "03o")) := pe_joined1 pe_str
  refine thn (hs.run pins s1 σ H1 (fun y H2 => y = .str "03o" ∧ H2 = H1) I1 ⟨rfl, rfl⟩) fun r s2 ⟨y, H2, I2, ry, ey, eH⟩ => ?_
  subst ey eH
  obtain ⟨t2, rfl⟩ := ry
  exact ⟨_, t2, rfl, field_oct hn fun t' k => ⟨.str (octS n), H2, I2.tok _, ⟨_, rfl⟩, q⟩⟩
/-- x op y, x an own instance -/
def rOwnB (K : PySem.W.Frag) (C : Addr) (sp : Sp) (E : XK) : R2 := fun x y H Q => ∃ (p dx : Addr) (fs : List (Str × V)) (t : Value), x = .ref p ∧ H p = some (.ins C dx fs) ∧ TyX K H y t ∧ PySem.W.notFirst K C t = true ∧ sp [x, y] H Q E
theorem op_ownB {CX : CXT} {C g : Addr} {n : Nat} {sp : Sp} {E : XK} {op : CmpOp} (hop : ∀ a b, compareOp op a b = richCompare op a b) (hs : PySem.W.findIn X.K (.ref C) (cmpInfo op).2.1 = some (some (.ref g))) (hf : PySem.W.isFn X.K (.ref g) = true)
    (F : FnR X.prog X.w X.K X.mg X.base CX n g sp) (room : Room n X.A) (hx : Passes CX X E) : OpR X (compareOp op) (rOwnB X.K C sp E) := by
  intro pins s σ H x y v u Q I rx ry told
  obtain ⟨p, dx, fs, t, rfl, hp, ty, nf, want⟩ := told
  obtain rfl : v = Value.ref p := rx
  obtain ⟨o1, d1, J1, _⟩ := StX.insC_at (X := X) I (.inr ⟨dx, fs, hp⟩)
  obtain ⟨Pp, Z, hpp, _⟩ := kit_of I ry ty
  obtain ⟨m, hF⟩ := I.fr
  rw [hop]
  refine PySem.W.cmp_K (op := op) (tb := t) room.units0 hF I.ok.mod.kin J1 (Z.ty _ _ I.kIn hpp) nf hs hf (wpAny_mono (wpAny_call (run_fnR (us := [.ref p, u]) (vs := [.ref p, y]) F room hx I (.cons rfl (.cons ry .nil)) want)) (fun r s' got => ?_) fun _ _ same => same)
  obtain ⟨z, H', I', rz, end_⟩ := got
  exact SlX.cmpback rz ⟨z, H', I', rz, end_⟩
theorem mt_scount : MtR X "str.count" (fun x xs H Q => ∃ a b, x = .str a ∧ xs = [.str b] ∧ Q (.int (Txt.count a b)) H) := by
  intro pins s σ H x xs v us Q I rx rxs h
  obtain ⟨a, b, rfl, rfl, q⟩ := h
  obtain ⟨t, rfl⟩ := rx
  obtain ⟨u, rfl, ru⟩ := rxs.one
  obtain ⟨t2, rfl⟩ := ru
  exact PySem.W.KXw.count rfl fun t' k => ⟨.int _, H, I.tok _, ⟨_, rfl⟩, q⟩
end
end KD
set_option Elab.async false
set_option linter.all false
set_option maxRecDepth 100000
set_option maxHeartbeats 4000000
namespace KD
open PySem PySem.Spec PyProof.Rows L2 LamX
/-! ### defs that are run where no object is being shown -/
def RunAt (P : Program) (w : World) (K : PySem.W.Frag) (mg : Str → Option Value) (base : Heap) (A : Around) (f : Addr) (fd : FuncData) (ps : List Str) (sp : Sp) : Prop :=
  ∀ (outer : List Env) (s : Shared) (H : Hp) (args : Args) (us : List Value) (vs : List V) (Q : VK) (E : XK), Env0 P w K mg base A outer s H → BindsTo s fd args (ps.zip us) → Vals vs us → sp vs H Q E →
    codeAny (model P w) A (.call (.ref f) args) (CR CX0 outer P w H s Q E) s
structure FnG (P : Program) (w : World) (K : PySem.W.Frag) (mg : Str → Option Value) (base : Heap) (k : Nat) (f : Addr) (fd : FuncData) (ps : List Str) (sp : Sp) : Prop where
  len : ∀ vs H Q E, sp vs H Q E → vs.length = ps.length
  run : ∀ A : Around, A.guards = some [] → Room k A → RunAt P w K mg base A f fd ps sp
theorem fnG_of {P : Program} {w : World} {K : PySem.W.Frag} {mg : Str → Option Value} {base : Heap} {k : Nat} {x qual : Str} {st : Stmt} {f : Addr} {oc kV doc pm cdv ct : Value} {an od : Option Addr} {osl : Array (Option Value)} {N ps : List Str} {sp : Sp}
    (at_ : K.lookup f = some ⟨oc, od, .func (PySem.W.fnOf x qual (defArgs st) (defBody st) (defScope st) .none kV doc pm an cdv ct), osl⟩) (code : PySem.W.codeIn K cdv qual = true) (S : FnScope N ps (defScope st)) (len : ∀ vs H Q E, sp vs H Q E → vs.length = ps.length)
    (body : ∀ (A : Around) (outer : List Env) (s : Shared) (H : Hp) (vs : List V) (Q : VK) (E : XK), A.guards = some [] → Room k (A.deeper (envOfC qual (defScope st) s.heap.objs.size f cdv)) → sp vs H Q E →
      ∃ t, PSs (cxOf CX0 P w K mg base N qual (defScope st) f cdv A outer s H E).nox (defBody st) t ∧ t { nx := fun _ H' => Q .non H', rt := Q } (start N vs) H) :
    FnG P w K mg base (k + 1) f (PySem.W.fnOf x qual (defArgs st) (defBody st) (defScope st) .none kV doc pm an cdv ct) ps sp := by
  refine ⟨len, fun A gd room outer s H args us vs Q E e0 bind vals want => ?_⟩
  have many := len _ _ _ _ want
  have inK : K.In s.heap := e0.mod.kin.keeps fun b o q => (e0.bs b o q).1
  have free : s.heap.NoLimit := e0.mod.nolimit.keeps fun b o q => (e0.bs b o q).1
  have kinds : ∀ y ∈ ps.zip us, (defScope st).names.lookup y.1 = some .local ∨ ((defScope st).names.lookup y.1 = some .cell ∧ ((cellsFrom (s.heap.objs.size + 1) (defScope st).names []).lookup y.1).isSome = true) := fun y hy =>
    (S.par y.1 (List.of_mem_zip hy).1).imp id fun q => ⟨q, PySem.W.cellsFrom_some _ _ _ (.inl q)⟩
  refine codeAny_call_function room.depth (inK _ _ at_) rfl S.co S.gen rfl (PySem.W.codeRec_of inK code) (bind _ _ _ _ ?_)
  refine wpAny_newFunctionEnv_cells S.kind kinds fun env he s1 call => ?_
  subst he
  obtain ⟨t, does, reads⟩ := body A outer s H vs Q E gd (room.deeper _) want
  refine ⟨free.keeps call.toInCall.keep, codeAny_func (wpAny_mono (does.nox.run [] s1 (start N vs) H _ (inv_start S room.hd e0 many vals call) reads) (fun fl s' ends => ?_) fun _ _ q => q)⟩
  cases fl with
  | ret u => exact let ⟨v, σ', H', J, rv, q⟩ := ends; ⟨v, H', J.os, J.bare, J.base, J.hok, rv, q⟩
  | next => exact let ⟨σ', H', J, q⟩ := ends; ⟨.non, H', J.os, J.bare, J.base, J.hok, rfl, q⟩
  | brk => exact let ⟨_, _, _, q⟩ := ends; False.elim q
  | cont => exact let ⟨_, _, _, q⟩ := ends; False.elim q
section
variable {X : Cx} {k : Nat} {f : Addr} {fd : FuncData} {ps : List Str} {sp : Sp} {E : XK} {x : Str} {e : Expr} {es : List Expr} {t : TA} {p pos : Pos}
/-- a call of such a def, where no object is being shown -/
theorem pe_callG (F : FnG X.prog X.w X.K X.mg X.base k f fd ps sp) (gd : X.A.guards = some []) (room : Room k X.A) (hg : Gl X x) (hm : X.mg x = some (.ref f)) (kp : PySem.W.keepIn X.K (.ref f) = true) (hb : Binds X.K fd ps [])
    (ha : PA X (e :: es) t) (nodb : (x == ("__debug__" : Str)) = false := by decide) (flat : starEach (e :: es) X.env = (false, eval e X.env) :: starEach es X.env := by rfl) (plain : (backTo pos (starEach es X.env)).any (·.1) = false := by rfl) :
    PE X (.Call (.Name x p) (e :: es) [] pos) (tCall sp [] E t) := by
  refine ⟨fun pins s σ H Q I h => ?_⟩
  refine wpAny_Call_Name_kw (ld_glob I hg hm ?_ nodb)
  refine PySem.W.callWith_K (h₀ := X.base) I.ok.mod.kin kp (thn (ha.run pos pins s σ H _ I h) fun us s1 ⟨vs, H1, J, r, q⟩ => ⟨J.kIn, ?_⟩) flat plain
  have q : sp vs H1 Q E := by rw [← List.append_nil vs]; exact q
  have many : us.length = ps.length := by rw [← r.length]; exact F.len _ _ _ _ q
  have bind := hb s1 us J.kIn (by rw [List.append_nil]; exact many)
  rw [List.append_nil] at bind
  refine wpAny_call (codeAny_mono (F.run X.A gd room X.stack s1 H1 ⟨us, []⟩ us vs Q E J.env0 bind r q) fun r s' got => ?_)
  match r, got with
  | .error _, got => exact False.elim got
  | .ok (.ret _), got => exact J.after got
  | .ok .next, got => exact False.elim got
  | .ok .brk, got => exact False.elim got
  | .ok .cont, got => exact False.elim got
/-! repr of what can be read, where no object is being shown -/
inductive RepV (K : PySem.W.Frag) (H : Hp) : V → Str → Prop
  | int {i : Int} (h : i.natAbs.log2 < 1920) : RepV K H (.int i) (toString i)
  | non : RepV K H .non "None"
  | bl (b : Bool) : RepV K H (.bl b) (if b then "True" else "False")
  | str {z : Str} (h : (reprText z).length ≤ sizeLine) : RepV K H (.str z) (reprText z)
  | obj {p : Addr} {d : PyData} (hd : Dp K H (.ref p) d) (h1 : d.showable = true) (h2 : d.hasDict = false) (h3 : d.depth ≤ 60) (h4 : d.shown.length ≤ sizeLine) : RepV K H (.ref p) d.shown
def rReprV (K : PySem.W.Frag) : List V → Hp → VK → Prop := fun xs H Q => ∃ (x : V) (s : Str), xs = [x] ∧ RepV K H x s ∧ Q (.str s) H
theorem call_reprV (gd : X.A.guards = some []) (hu : X.A.units + 64 < cLine) : CallR X (.builtin "repr") (rReprV X.K) := by
  intro pins s σ H xs us Q I r start
  obtain ⟨v, z, rfl, rep, q⟩ := start
  obtain ⟨u, rfl, ru⟩ := r.one
  cases rep with
  | int h =>
    obtain ⟨t, rfl⟩ := ru
    exact PySem.P.repr_of_int h ⟨.str _, H, I.tok _, ⟨_, rfl⟩, q⟩
  | non =>
    obtain rfl : u = Value.none := ru
    exact PySem.P.repr_of_none ⟨.str _, H, I.tok _, ⟨_, rfl⟩, q⟩
  | bl b =>
    obtain rfl : u = Value.bool b := ru
    exact PySem.P.repr_of_bool ⟨.str _, H, I.tok _, ⟨_, rfl⟩, q⟩
  | str h =>
    obtain ⟨t, rfl⟩ := ru
    exact PySem.P.repr_of_str ⟨.str _, H, I.tok _, ⟨_, rfl⟩, q⟩ h
  | @obj p d hd h1 h2 h3 h4 =>
    obtain ⟨as, reads⟩ := Dp.reads I d (.ref p) u hd ru
    obtain rfl : u = Value.ref p := ru
    exact repr_of_reads' reads h1 (fun h => by rw [h2] at h; cases h) gd (by omega) (fun _ _ e => e) (fun g t tk rest => ⟨.str d.shown, H, I.kept (t' := tk) rest, ⟨t, rfl⟩, q⟩) h4
end
/-! ### a law with lambdas, run at the top alone -/
def tab0 : Obj := { cls := .none, data := .fields #[] }
def fz (vs : List Value) (ns : List Int) : HO := .frz { cls := .type "list", data := .seq vs.toArray } (.lst (ns.map V.int))
/-- what the law is told: the empty tables, and the script, if it is none of the written objects -/
structure Told0 (P : Program) (w : World) (K : PySem.W.Frag) (h : Heap) (a : Addr) (ns : List Int) (Ts : List Addr) (H : Hp) : Prop where
  tabs : ∀ b ∈ Ts, H b = some (.tbl #[])
  only : ∀ b, b ∉ Ts → H b = none ∨ ∃ ob xs, H b = some (.frz ob (.lst xs))
  seq : SqL K H a (ns.map V.int)
  hok : HOk P w H h
  here : ∀ b, H b ≠ none → b = a ∨ b ∈ Ts
  lone : H a ≠ none → K.lookup a = none
theorem told0 {P : Program} {w : World} {K : PySem.W.Frag} {h : Heap} {a : Addr} {vs : List Value} {ns : List Int} {Ts : List Addr} (inK : K.In h) (ha : h.get? a = some { cls := .type "list", data := .seq vs.toArray }) (hi : IntsAre vs ns) (hl : ns.length ≤ sizeLine) (tb : ∀ b ∈ Ts, h.get? b = some tab0) : ∃ H : Hp, Told0 P w K h a ns Ts H := by
  have rv := vals_ints hi
  have off : a ∉ Ts := fun z => by
    have q := (tb a z).symm.trans ha
    exact nomatch congrArg Obj.data (Option.some.inj q)
  cases hk : K.lookup a with
  | some o =>
    obtain rfl : o = { cls := .type "list", data := .seq vs.toArray } := Option.some.inj ((inK a o hk).symm.trans ha)
    refine ⟨fun b => if b ∈ Ts then some (.tbl #[]) else none, fun b m => if_pos m, fun b m => .inl (if_neg m), .inr ⟨_, vs.toArray, _, hk, rfl, rfl, rfl, by rw [List.size_toArray, hi.length]; exact hl, by simpa using rv⟩, fun b u z => ?_, fun b z => .inr (Classical.byContradiction fun n => z (if_neg n)), fun z => absurd (if_neg off) z⟩
    by_cases m : b ∈ Ts
    · obtain rfl : HO.tbl #[] = u := Option.some.inj ((if_pos m).symm.trans z)
      exact tb b m
    · exact nomatch (if_neg m).symm.trans z
  | none =>
    have ifa : (if a ∈ Ts then some (HO.tbl #[]) else if a = a then some (fz vs ns) else none) = some (fz vs ns) := (if_neg off).trans (if_pos rfl)
    refine ⟨fun b => if b ∈ Ts then some (.tbl #[]) else if b = a then some (fz vs ns) else none, fun b m => if_pos m, fun b m => ?_, .inl (.inr ⟨_, ifa⟩), fun b u z => ?_, fun b z => ?_, fun _ => hk⟩
    · by_cases e : b = a
      · exact .inr ⟨_, _, (if_neg m).trans (if_pos e)⟩
      · exact .inl ((if_neg m).trans (if_neg e))
    · by_cases m : b ∈ Ts
      · obtain rfl : HO.tbl #[] = u := Option.some.inj ((if_pos m).symm.trans z)
        exact tb b m
      · have z2 := (if_neg m).symm.trans z
        by_cases e : b = a
        · obtain rfl : fz vs ns = u := Option.some.inj ((if_pos e).symm.trans z2)
          have few : (ns.map V.int).length ≤ sizeLine := by rw [List.length_map]; exact hl
          rw [e]
          exact ⟨ha, few, vs, _, rv, ha⟩
        · exact nomatch (if_neg e).symm.trans z2
    · by_cases m : b ∈ Ts
      · exact .inr m
      · by_cases e : b = a
        · exact .inl e
        · exact absurd ((if_neg m).trans (if_neg e)) z
theorem top_tabs {P : Program} {w : World} {K : PySem.W.Frag} {mg mb : Str → Option Value} {fa a : Addr} {fd : FuncData} {x : Str} {sp : Sp} {s₁ : Shared} {vs : List Value} {ns : List Int} {cs : List (Addr × Addr)} (inK : K.In s₁.heap) (names : s₁.heap.Ns mainGlobals mg) (hb : s₁.heap.Ns builtinsNs mb)
    (boot : ∀ x : Str, x ≠ "__name__" → mb x = bootBuiltins x) (free : s₁.heap.NoLimit) (young : s₁.gens = #[]) (ha : s₁.heap.get? a = some { cls := .type "list", data := .seq vs.toArray }) (hi : IntsAre vs ns) (hl : ns.length ≤ sizeLine)
    (tb : ∀ p ∈ cs, s₁.heap.get? p.2 = some tab0) (away : ∀ p ∈ cs, K.lookup p.2 = none) (hd : ∀ p ∈ cs, PySem.W.codeHdIn K p.1 p.2 = true)
    (main : ∃ (bm : Addr) (ob : Obj), mg "__builtins__" = some (.ref bm) ∧ bm ≠ builtinsNs ∧ s₁.heap.get? bm = some ob ∧ ob.cls = .type "module" ∧ ob.dict = some builtinsNs ∧ ob.data = .plain)
    (F : ∀ base : Heap, K.In base → base.Ns mainGlobals mg → (∀ p ∈ cs, TabB base mg p.1 p.2) → RunAt P w K mg base callerA fa fd [x] sp) (bind : ∀ (s : Shared) (u : Value), BindsTo s fd ⟨[u], []⟩ [(x, u)])
    (want : ∀ H : Hp, (∀ p ∈ cs, H p.2 = some (.tbl #[])) → SqL K H a (ns.map V.int) → sp [.ref a] H (fun v _ => v = .bl true) fun _ _ _ => False) :
    codeAny (model P w) callerA (.call (.ref fa) ⟨[.ref a], []⟩) (fun r s' => r = .ok (.ret (.bool true)) ∧ OldK s₁.heap s'.heap ∧ s'.os = s₁.os ∧ AllBare s'.gens) s₁ := by
  have tb' : ∀ b ∈ cs.map (·.2), s₁.heap.get? b = some tab0 := fun b m => by
    obtain ⟨p, hp, rfl⟩ := List.mem_map.mp m
    exact tb p hp
  obtain ⟨H, told⟩ := told0 (P := P) (w := w) inK ha hi hl tb'
  have in_ : ∀ p ∈ cs, p.2 ∈ cs.map (·.2) := fun p hp => List.mem_map.mpr ⟨p, hp, rfl⟩
  -- what is neither a list nor a table stays in the base
  have out : ∀ {b : Addr} {o : Obj}, s₁.heap.get? b = some o → (∀ it n, o.data ≠ .seq it n) → o.data ≠ .fields #[] → (hidT s₁.heap H).get? b = some o := fun {b o} g n1 n2 => hidT_get g (Classical.byContradiction fun z => by
    rcases told.here b z with rfl | m
    · rw [ha] at g
      cases g
      exact n1 _ _ rfl
    · rw [tb' b m] at g
      cases g
      exact n2 rfl)
  have ns' : ∀ {b : Addr} {m : Str → Option Value}, s₁.heap.Ns b m → (hidT s₁.heap H).Ns b m := fun ⟨o, es, ep, g, d, r⟩ => ⟨o, es, ep, out g (fun _ _ z => nomatch d.symm.trans z) (fun z => nomatch d.symm.trans z), d, r⟩
  have inB : K.In (hidT s₁.heap H) := fun b o q => hidT_get (inK b o q) (Classical.byContradiction fun z => by
    rcases told.here b z with rfl | m
    · rw [told.lone z] at q
      cases q
    · obtain ⟨p, hp, rfl⟩ := List.mem_map.mp m
      rw [away p hp] at q
      cases q)
  have free' : (hidT s₁.heap H).NoLimit := let ⟨mc, h1, h2⟩ := free; ⟨mc, ns' h1, h2⟩
  have glob : ∀ {b : Addr} {o : Obj}, s₁.heap.get? b = some o → (∀ es n, o.data ≠ .dict es n) → mainGlobals ≠ b := fun g n z => by
    obtain ⟨o, es, ep, g2, d, _⟩ := names
    rw [z, g] at g2
    cases g2
    exact n _ _ d
  have tabs : ∀ p ∈ cs, TabB (hidT s₁.heap H) mg p.1 p.2 := fun p hp => by
    obtain ⟨bm, ob, m1, m2, m3, m4, m5, m6⟩ := main
    refine ⟨PySem.W.codeHd_of_K inB (hd p hp), ⟨bm, ob, m1, m2, (glob m3 fun _ _ z => nomatch m6.symm.trans z).symm, fun z => ?_, out m3 (fun _ _ z => nomatch m6.symm.trans z) (fun z => nomatch m6.symm.trans z), m4, m5, m6⟩, glob (tb p hp) fun _ _ z => nomatch z⟩
    rw [z, tb p hp] at m3
    cases m3
    cases m6
  have e0 : Env0 P w K mg (hidT s₁.heap H) callerA [] s₁ H := ⟨rfl, ⟨inB, ns' names, ⟨mb, ns' hb, boot⟩, free'⟩, fun b o q => of_hidT q, Nat.le_of_eq (hidT_size _ _), trivial, fun b m => absurd (show b ∈ ([] : List Addr) from m) List.not_mem_nil, told.hok, .of_eq young⟩
  refine codeAny_mono (F _ inB (ns' names) tabs [] s₁ H ⟨[.ref a], []⟩ [.ref a] [.ref a] _ _ e0 (bind s₁ (.ref a)) (.cons rfl .nil) (want H (fun p hp => told.tabs _ (in_ p hp)) told.seq)) fun r s' got => ?_
  match r, got with
  | .error e, got => exact False.elim got
  | .ok .next, got => exact False.elim got
  | .ok .brk, got => exact False.elim got
  | .ok .cont, got => exact False.elim got
  | .ok (.ret u), ⟨v, H', os, bare, un, hok', rv, q⟩ =>
    obtain rfl : v = .bl true := q
    obtain rfl : u = Value.bool true := rv
    have grew : ∀ p ∈ cs, ∃ more : Array Value, s'.heap.get? p.2 = some { cls := .none, data := .fields more } := fun p hp =>
      let ⟨more, z⟩ := un.tbls p.2 #[] (told.tabs _ (in_ p hp)); ⟨_, hok' p.2 _ z⟩
    have same : ∀ b o, b ∉ cs.map (·.2) → s₁.heap.get? b = some o → s'.heap.get? b = some o := fun b o n g => by
      rcases told.only b n with z | ⟨ob, xs, z⟩
      · exact un.keep b o g z (fun m => absurd (show b ∈ ([] : List Addr) from m) List.not_mem_nil) List.not_mem_nil
      · obtain ⟨e1, _⟩ := told.hok b _ z
        obtain ⟨e2, _⟩ := hok' b _ (un.frzs b ob _ z)
        rw [g] at e1
        cases e1
        exact e2
    refine ⟨rfl, ⟨fun b o g => ?_, fun b o g => ?_⟩, os, bare⟩
    · by_cases m : b ∈ cs.map (·.2)
      · obtain ⟨p, hp, rfl⟩ := List.mem_map.mp m
        obtain ⟨more, gm⟩ := grew p hp
        have hc := PySem.W.codeHd_of_K inK (hd p hp)
        obtain rfl : tab0 = o := Option.some.inj ((tb p hp).symm.trans g)
        exact .inr (.inl ⟨(hc.tab g).isCodeTable, rfl, #[], more, rfl, by rw [gm]; congr; exact (Array.empty_append).symm⟩)
      · exact .inl (same b o m g)
    · by_cases m : b ∈ cs.map (·.2)
      · obtain ⟨p, hp, rfl⟩ := List.mem_map.mp m
        obtain ⟨more, gm⟩ := grew p hp
        exact ⟨_, gm⟩
      · exact ⟨o, same b o m g⟩
def LawTop (l : PySem.W.OpenLaw) (w : World) (K : PySem.W.Frag) (x : Str) (mg : Str → Option Value) (fa : Addr) (h : Heap) : Prop :=
  ∃ (fd : FuncData) (cs : List (Addr × Addr)) (sp : Sp), (∀ p ∈ cs, h.get? p.2 = some tab0) ∧ (∀ p ∈ cs, K.lookup p.2 = none) ∧ (∀ p ∈ cs, PySem.W.codeHdIn K p.1 p.2 = true) ∧ (∀ (s : Shared) (u : Value), BindsTo s fd ⟨[u], []⟩ [(x, u)]) ∧
    (∀ (H : Hp) (a : Addr) (ns : List Int), ns.length ≤ 63 → (∀ p ∈ cs, H p.2 = some (.tbl #[])) → SqL K H a (ns.map V.int) → sp [.ref a] H (fun v _ => v = .bl true) fun _ _ _ => False) ∧
    ∀ base : Heap, K.In base → base.Ns mainGlobals mg → (∀ p ∈ cs, TabB base mg p.1 p.2) → RunAt l.prog w K mg base callerA fa fd [x] sp
theorem walk_tabs {l : PySem.W.OpenLaw} {q : Program} {loose : List Str} {XP : (Str → Option Value) → Heap → Prop} {YP : World → Heap → Prop} {d : DefRec} {K : Params → PySem.W.Frag} {x : Str} (many : l.most = some 63) (plain : d.params.defaults = []) (inK : ∀ (w : World) (h : Heap), YP w h → (K w.params).In h)
    (F : ∀ (w : World) (mg : Str → Option Value) (fa : Addr) (h : Heap), YP w h → (K w.params).In h → h.Ns mainGlobals mg → mg d.name = some (.ref fa) → LawTop l w (K w.params) x mg fa h) :
    PySem.W.WalkO q loose XP YP l.row.toRowW d [] (fun f vs => PySem.call f vs) :=
  Att.attach_callB many plain fun w s₀ s₁ mg mb fa o pm cd doc a vs ns G Y ho hd hcd hmg hobj hints hlen _ hg => by
    obtain ⟨fd, cs, sp, h1, h2, h3, h4, h5, h6⟩ := F w mg fa _ Y (inK w _ Y) G.T.g hmg
    exact top_tabs (inK w _ Y) G.T.g G.T.b G.T.builtins G.T.nolimit hg hobj hints (Nat.le_trans hlen (by decide)) h1 h2 h3 G.T.bmain h6 h4 fun H tb seq => h5 H a ns hlen tb seq
end KD
set_option Elab.async false
set_option linter.all false
set_option maxRecDepth 100000
set_option maxHeartbeats 4000000
namespace KD
open PySem PySem.Spec PyProof.Rows L2
theorem paired_of {α β : Type} {R : α → β → Prop} : ∀ {xs : List α} {ys : List β}, xs.length = ys.length → (∀ (i : Nat) (x : α) (y : β), xs[i]? = some x → ys[i]? = some y → R x y) → Paired R xs ys
  | [], [], _, _ => .nil
  | x :: xs, y :: ys, l, h => .cons (h 0 x y rfl rfl) (paired_of (Nat.succ.inj l) fun i a b ha hb => h (i + 1) a b ha hb)
/-- the signs of a text, as texts -/
def onesOf (x : Str) : List V := x.cps.toList.map fun c => V.str ⟨#[c]⟩
theorem call_listStr {X : Cx} (hc : X.calm = true) : CallR X (.type "list") (fun xs H Q => ∃ x : Str, xs = [.str x] ∧ x.length ≤ 100000 ∧ ∀ l, H l = none → Q (.ref l) (upd H l (.lst (onesOf x)))) := by
  intro pins s σ H xs us Q I r h
  obtain ⟨x, rfl, hz, q⟩ := h
  obtain ⟨u, rfl, ru⟩ := r.one
  obtain ⟨t, rfl⟩ := ru
  refine call_list_str (I.ok.hd hc) x t (fun h' tk acc' c' kp at_ each => ?_) (Nat.le_trans hz (by decide))
  have len : (onesOf x).length = x.cps.size := by unfold onesOf; rw [List.length_map, Array.length_toList]
  have vals : Vals (onesOf x) acc'.toList := by
    refine paired_of (by rw [len, Array.length_toList, each.1]) fun i v u hv hu => ?_
    unfold onesOf at hv
    rw [List.getElem?_map] at hv
    obtain ⟨c, hc', rfl⟩ := Option.map_eq_some_iff.mp hv
    rw [Array.getElem?_toList] at hc' hu
    obtain ⟨c2, t2, e1, rfl⟩ := each.2 i u hu
    obtain rfl : c = c2 := Option.some.inj (hc'.symm.trans e1)
    exact ⟨t2, rfl⟩
  exact ⟨.ref s.heap.objs.size, _, I.laid (t' := tk) kp (Nat.le_refl _) (show ObjOk X.prog X.w _ h' _ (.lst (onesOf x)) from ⟨by rw [len]; exact Nat.le_trans hz (by decide), acc'.toList, c', vals, at_⟩), rfl, q _ (I.hok.fresh (Nat.le_refl _))⟩
end KD
set_option Elab.async false
set_option linter.all false
set_option maxRecDepth 100000
set_option maxHeartbeats 4000000
namespace KD
open PySem L2
def top (i : Nat) : Stmt := PySem.Challenge.pw_modesdown_k01_modes_made.main.body.getD i (.Pass ⟨0, 0, 0, 0⟩)
abbrev s__wall : Stmt := top 0
abbrev s_is_whole : Stmt := top 2
abbrev s_is_whole_to : Stmt := top 3
abbrev s_BadModeD_initD : Stmt := inClass (top 8) 0
abbrev s_BadTextD_initD : Stmt := inClass (top 9) 0
abbrev s_pattern_in : Stmt := top 14
abbrev s_bits_of : Stmt := top 15
abbrev s_weight_of : Stmt := top 16
abbrev s_ModeD_initD : Stmt := inClass (top 17) 1
abbrev s_Mode_read : Stmt := inClass (top 17) 2
abbrev s_Mode_of : Stmt := inClass (top 17) 3
abbrev s_Mode_uniform : Stmt := inClass (top 17) 4
abbrev s_Mode_number : Stmt := inClass (top 17) 5
abbrev s_Mode_digits : Stmt := inClass (top 17) 6
abbrev s_Mode_pattern : Stmt := inClass (top 17) 7
abbrev s_Mode_with_pattern : Stmt := inClass (top 17) 8
abbrev s_ModeD_orD : Stmt := inClass (top 17) 9
abbrev s_ModeD_rorD : Stmt := inClass (top 17) 10
abbrev s_ModeD_andD : Stmt := inClass (top 17) 11
abbrev s_ModeD_randD : Stmt := inClass (top 17) 12
abbrev s_ModeD_xorD : Stmt := inClass (top 17) 13
abbrev s_ModeD_rxorD : Stmt := inClass (top 17) 14
abbrev s_ModeD_invertD : Stmt := inClass (top 17) 15
abbrev s_ModeD_containsD : Stmt := inClass (top 17) 16
abbrev s_ModeD_lenD : Stmt := inClass (top 17) 17
abbrev s_ModeD_boolD : Stmt := inClass (top 17) 18
abbrev s_ModeD_eqD : Stmt := inClass (top 17) 19
abbrev s_ModeD_strD : Stmt := inClass (top 17) 20
abbrev s_ModeD_reprD : Stmt := inClass (top 17) 21
abbrev s_may_stand : Stmt := top 18
abbrev s_number_of : Stmt := top 19
abbrev s__law_bag : Stmt := top 21
abbrev s__law_draw : Stmt := top 22
abbrev s__law_same : Stmt := top 23
abbrev s__law_odd_value : Stmt := top 24
abbrev s__law_heard : Stmt := top 25
abbrev s__law_signs : Stmt := top 26
abbrev s__law_right : Stmt := top 27
abbrev s__law_digits_right : Stmt := top 28
abbrev s_law : Stmt := top 29
abbrev n__wall : List Str := ["k"]
theorem sc__wall : FnScope n__wall ["k"] (defScope s__wall) := ⟨rfl, rfl, rfl, by decide +kernel, rfl, by decide +kernel, by decide +kernel⟩
abbrev n_is_whole : List Str := ["value"]
theorem sc_is_whole : FnScope n_is_whole ["value"] (defScope s_is_whole) := ⟨rfl, rfl, rfl, by decide +kernel, rfl, by decide +kernel, by decide +kernel⟩
abbrev n_is_whole_to : List Str := ["value", "most"]
theorem sc_is_whole_to : FnScope n_is_whole_to ["value", "most"] (defScope s_is_whole_to) := ⟨rfl, rfl, rfl, by decide +kernel, rfl, by decide +kernel, by decide +kernel⟩
abbrev n_BadModeD_initD : List Str := ["self", "part"]
theorem sc_BadModeD_initD : FnScope n_BadModeD_initD ["self", "part"] (defScope s_BadModeD_initD) := ⟨rfl, rfl, rfl, by decide +kernel, rfl, by decide +kernel, by decide +kernel⟩
abbrev n_BadTextD_initD : List Str := ["self", "line", "word"]
theorem sc_BadTextD_initD : FnScope n_BadTextD_initD ["self", "line", "word"] (defScope s_BadTextD_initD) := ⟨rfl, rfl, rfl, by decide +kernel, rfl, by decide +kernel, by decide +kernel⟩
abbrev n_pattern_in : List Str := ["number", "weight", "bits"]
theorem sc_pattern_in : FnScope n_pattern_in ["number", "weight"] (defScope s_pattern_in) := ⟨rfl, rfl, rfl, by decide +kernel, rfl, by decide +kernel, by decide +kernel⟩
abbrev n_bits_of : List Str := ["pattern", "weight"]
theorem sc_bits_of : FnScope n_bits_of ["pattern", "weight"] (defScope s_bits_of) := ⟨rfl, rfl, rfl, by decide +kernel, rfl, by decide +kernel, by decide +kernel⟩
abbrev n_weight_of : List Str := ["letter"]
theorem sc_weight_of : FnScope n_weight_of ["letter"] (defScope s_weight_of) := ⟨rfl, rfl, rfl, by decide +kernel, rfl, by decide +kernel, by decide +kernel⟩
abbrev n_ModeD_initD : List Str := ["self", "number"]
theorem sc_ModeD_initD : FnScope n_ModeD_initD ["self", "number"] (defScope s_ModeD_initD) := ⟨rfl, rfl, rfl, by decide +kernel, rfl, by decide +kernel, by decide +kernel⟩
abbrev n_Mode_read : List Str := ["cls", "text", "number", "at", "sign"]
theorem sc_Mode_read : FnScope n_Mode_read ["cls", "text"] (defScope s_Mode_read) := ⟨rfl, rfl, rfl, by decide +kernel, rfl, by decide +kernel, by decide +kernel⟩
abbrev n_Mode_of : List Str := ["owner", "group", "others", "part", "digit"]
theorem sc_Mode_of : FnScope n_Mode_of ["owner", "group", "others"] (defScope s_Mode_of) := ⟨rfl, rfl, rfl, by decide +kernel, rfl, by decide +kernel, by decide +kernel⟩
abbrev n_Mode_uniform : List Str := ["pattern"]
theorem sc_Mode_uniform : FnScope n_Mode_uniform ["pattern"] (defScope s_Mode_uniform) := ⟨rfl, rfl, rfl, by decide +kernel, rfl, by decide +kernel, by decide +kernel⟩
abbrev n_Mode_number : List Str := ["self"]
theorem sc_Mode_number : FnScope n_Mode_number ["self"] (defScope s_Mode_number) := ⟨rfl, rfl, rfl, by decide +kernel, rfl, by decide +kernel, by decide +kernel⟩
abbrev n_Mode_digits : List Str := ["self"]
theorem sc_Mode_digits : FnScope n_Mode_digits ["self"] (defScope s_Mode_digits) := ⟨rfl, rfl, rfl, by decide +kernel, rfl, by decide +kernel, by decide +kernel⟩
abbrev n_Mode_pattern : List Str := ["self", "letter"]
theorem sc_Mode_pattern : FnScope n_Mode_pattern ["self", "letter"] (defScope s_Mode_pattern) := ⟨rfl, rfl, rfl, by decide +kernel, rfl, by decide +kernel, by decide +kernel⟩
abbrev n_Mode_with_pattern : List Str := ["self", "letter", "pattern"]
theorem sc_Mode_with_pattern : FnScope n_Mode_with_pattern ["self", "letter", "pattern"] (defScope s_Mode_with_pattern) := ⟨rfl, rfl, rfl, by decide +kernel, rfl, by decide +kernel, by decide +kernel⟩
abbrev n_ModeD_orD : List Str := ["self", "other"]
theorem sc_ModeD_orD : FnScope n_ModeD_orD ["self", "other"] (defScope s_ModeD_orD) := ⟨rfl, rfl, rfl, by decide +kernel, rfl, by decide +kernel, by decide +kernel⟩
abbrev n_ModeD_rorD : List Str := ["self", "other"]
theorem sc_ModeD_rorD : FnScope n_ModeD_rorD ["self", "other"] (defScope s_ModeD_rorD) := ⟨rfl, rfl, rfl, by decide +kernel, rfl, by decide +kernel, by decide +kernel⟩
abbrev n_ModeD_andD : List Str := ["self", "other"]
theorem sc_ModeD_andD : FnScope n_ModeD_andD ["self", "other"] (defScope s_ModeD_andD) := ⟨rfl, rfl, rfl, by decide +kernel, rfl, by decide +kernel, by decide +kernel⟩
abbrev n_ModeD_randD : List Str := ["self", "other"]
theorem sc_ModeD_randD : FnScope n_ModeD_randD ["self", "other"] (defScope s_ModeD_randD) := ⟨rfl, rfl, rfl, by decide +kernel, rfl, by decide +kernel, by decide +kernel⟩
abbrev n_ModeD_xorD : List Str := ["self", "other"]
theorem sc_ModeD_xorD : FnScope n_ModeD_xorD ["self", "other"] (defScope s_ModeD_xorD) := ⟨rfl, rfl, rfl, by decide +kernel, rfl, by decide +kernel, by decide +kernel⟩
abbrev n_ModeD_rxorD : List Str := ["self", "other"]
theorem sc_ModeD_rxorD : FnScope n_ModeD_rxorD ["self", "other"] (defScope s_ModeD_rxorD) := ⟨rfl, rfl, rfl, by decide +kernel, rfl, by decide +kernel, by decide +kernel⟩
abbrev n_ModeD_invertD : List Str := ["self"]
theorem sc_ModeD_invertD : FnScope n_ModeD_invertD ["self"] (defScope s_ModeD_invertD) := ⟨rfl, rfl, rfl, by decide +kernel, rfl, by decide +kernel, by decide +kernel⟩
abbrev n_ModeD_containsD : List Str := ["self", "bit", "bits"]
theorem sc_ModeD_containsD : FnScope n_ModeD_containsD ["self", "bit"] (defScope s_ModeD_containsD) := ⟨rfl, rfl, rfl, by decide +kernel, rfl, by decide +kernel, by decide +kernel⟩
abbrev n_ModeD_lenD : List Str := ["self", "bit"]
theorem sc_ModeD_lenD : FnScope n_ModeD_lenD ["self"] (defScope s_ModeD_lenD) := ⟨rfl, rfl, rfl, by decide +kernel, rfl, by decide +kernel, by decide +kernel⟩
abbrev n_ModeD_boolD : List Str := ["self"]
theorem sc_ModeD_boolD : FnScope n_ModeD_boolD ["self"] (defScope s_ModeD_boolD) := ⟨rfl, rfl, rfl, by decide +kernel, rfl, by decide +kernel, by decide +kernel⟩
abbrev n_ModeD_eqD : List Str := ["self", "other"]
theorem sc_ModeD_eqD : FnScope n_ModeD_eqD ["self", "other"] (defScope s_ModeD_eqD) := ⟨rfl, rfl, rfl, by decide +kernel, rfl, by decide +kernel, by decide +kernel⟩
abbrev n_ModeD_strD : List Str := ["self", "sign", "bit"]
theorem sc_ModeD_strD : FnScope n_ModeD_strD ["self"] (defScope s_ModeD_strD) := ⟨rfl, rfl, rfl, by decide +kernel, rfl, by decide +kernel, by decide +kernel⟩
abbrev n_ModeD_reprD : List Str := ["self"]
theorem sc_ModeD_reprD : FnScope n_ModeD_reprD ["self"] (defScope s_ModeD_reprD) := ⟨rfl, rfl, rfl, by decide +kernel, rfl, by decide +kernel, by decide +kernel⟩
abbrev n_may_stand : List Str := ["value"]
theorem sc_may_stand : FnScope n_may_stand ["value"] (defScope s_may_stand) := ⟨rfl, rfl, rfl, by decide +kernel, rfl, by decide +kernel, by decide +kernel⟩
abbrev n_number_of : List Str := ["mode"]
theorem sc_number_of : FnScope n_number_of ["mode"] (defScope s_number_of) := ⟨rfl, rfl, rfl, by decide +kernel, rfl, by decide +kernel, by decide +kernel⟩
abbrev n__law_bag : List Str := ["_law_script", "_law_state", "_law_cell"]
theorem sc__law_bag : FnScope n__law_bag ["_law_script"] (defScope s__law_bag) := ⟨rfl, rfl, rfl, by decide +kernel, rfl, by decide +kernel, by decide +kernel⟩
abbrev n__law_draw : List Str := ["_law_bag_here", "_law_limit", "_law_cell", "_law_mixed", "_law_found"]
theorem sc__law_draw : FnScope n__law_draw ["_law_bag_here", "_law_limit"] (defScope s__law_draw) := ⟨rfl, rfl, rfl, by decide +kernel, rfl, by decide +kernel, by decide +kernel⟩
abbrev n__law_same : List Str := ["_law_actual", "_law_expected", "_law_k"]
theorem sc__law_same : FnScope n__law_same ["_law_actual", "_law_expected"] (defScope s__law_same) := ⟨rfl, rfl, rfl, by decide +kernel, rfl, by decide +kernel, by decide +kernel⟩
abbrev n__law_odd_value : List Str := ["_law_bag_here", "_law_odd"]
theorem sc__law_odd_value : FnScope n__law_odd_value ["_law_bag_here"] (defScope s__law_odd_value) := ⟨rfl, rfl, rfl, by decide +kernel, rfl, by decide +kernel, by decide +kernel⟩
abbrev n__law_heard : List Str := ["_law_ask", "error", "_law_marks"]
theorem sc__law_heard : FnScope n__law_heard ["_law_ask"] (defScope s__law_heard) := ⟨rfl, rfl, rfl, by decide +kernel, rfl, by decide +kernel, by decide +kernel⟩
abbrev n__law_signs : List Str := ["_law_amount", "_law_found", "_law_at"]
theorem sc__law_signs : FnScope n__law_signs ["_law_amount"] (defScope s__law_signs) := ⟨rfl, rfl, rfl, by decide +kernel, rfl, by decide +kernel, by decide +kernel⟩
abbrev n__law_right : List Str := ["_law_mode", "_law_amount", "_law_signs_here", "_law_high", "_law_middle", "_law_low", "_law_unlike", "_law_other"]
theorem sc__law_right : FnScope n__law_right ["_law_mode", "_law_amount"] (defScope s__law_right) := ⟨rfl, rfl, rfl, by decide +kernel, rfl, by decide +kernel, by decide +kernel⟩
abbrev n__law_digits_right : List Str := ["_law_bag_here", "_law_k", "_law_digits", "_law_wrong", "_law_found", "_law_amount", "_law_again", "_law_one", "_law_three", "_law_two"]
theorem sc__law_digits_right : FnScope n__law_digits_right ["_law_bag_here"] (defScope s__law_digits_right) := ⟨rfl, rfl, rfl, by decide +kernel, rfl, by decide +kernel, by decide +kernel⟩
abbrev n_law : List Str := ["_law_script", "_law_bag_here", "_law_k", "_law_amount", "_law_cast", "_law_bits", "_law_due", "_law_odd"]
theorem sc_law : FnScope n_law ["_law_script"] (defScope s_law) := ⟨rfl, rfl, rfl, by decide +kernel, rfl, by decide +kernel, by decide +kernel⟩
end KD
set_option Elab.async false
set_option linter.all false
set_option maxRecDepth 100000
set_option maxHeartbeats 4000000
namespace KD
open PySem PySem.Spec PyProof.Rows L2 Evl
theorem all_nat {n : Nat} {p : Nat → Bool} (h : (List.range n).all p = true) : ∀ i, i < n → p i = true := fun i hi => List.all_eq_true.mp h i (List.mem_range.mpr hi)
/-- C.m is a staticmethod: its record at p, its def at g -/
structure SMet (K : PySem.W.Frag) (C : Addr) (m : Str) (p g : Addr) : Prop where
  at_ : PySem.W.findCls K (.ref C) (.type "type") m = some (.get (.builtin "staticmethod.__get__") (.ref p) .none (.ref C))
  rc : ∃ rest, PySem.W.recIn K p "staticmethod" = some (.ref g :: rest)
  kp : PySem.W.keepIn K (.ref g) = true
def oddL : List Str := ["", "R", "X", "rw", "u", "r "]
structure Ads where
  f_is_whole : Addr
  d_is_whole : FuncData
  f_is_whole_to : Addr
  d_is_whole_to : FuncData
  f_bits_of : Addr
  d_bits_of : FuncData
  f__law_bag : Addr
  d__law_bag : FuncData
  f__law_draw : Addr
  d__law_draw : FuncData
  f__law_same : Addr
  d__law_same : FuncData
  f__law_odd_value : Addr
  d__law_odd_value : FuncData
  f__law_signs : Addr
  d__law_signs : FuncData
  f__law_right : Addr
  d__law_right : FuncData
  f__law_digits_right : Addr
  d__law_digits_right : FuncData
  f_Mode : Addr
  f_ModeD_initD : Addr
  d_ModeD_initD : FuncData
  f_Mode_number : Addr
  d_Mode_number : FuncData
  p_Mode_number : Addr
  f_Mode_digits : Addr
  d_Mode_digits : FuncData
  p_Mode_digits : Addr
  f_ModeD_lenD : Addr
  d_ModeD_lenD : FuncData
  f_ModeD_boolD : Addr
  d_ModeD_boolD : FuncData
  f_ModeD_eqD : Addr
  d_ModeD_eqD : FuncData
  f_ModeD_strD : Addr
  d_ModeD_strD : FuncData
  f_ModeD_reprD : Addr
  d_ModeD_reprD : FuncData
  f_Mode_of : Addr
  d_Mode_of : FuncData
  p_Mode_of : Addr
  f_Mode_uniform : Addr
  d_Mode_uniform : FuncData
  p_Mode_uniform : Addr
  k_NINE_BITS : Addr
  x_BadMode : Addr
  x_BadInput : Addr
  x_NoWay : Addr
  x_BadText : Addr
  f__law_heard : Addr
  d__law_heard : FuncData
  x_ModesError : Addr
  f_BadModeD_initD : Addr
  d_BadModeD_initD : FuncData
  cR : Addr
  PR : Addr
  cA : Addr
  P0 : Addr
structure Txt (w : World) (K : PySem.W.Frag) (mg : Str → Option Value) (a : Ads) : Prop where
  b_ValueError : mg "ValueError" = none
  b_isinstance : mg "isinstance" = none
  b_int : mg "int" = none
  b_bool : mg "bool" = none
  b_str : mg "str" = none
  b_list : mg "list" = none
  b_len : mg "len" = none
  b_abs : mg "abs" = none
  b_range : mg "range" = none
  b_tuple : mg "tuple" = none
  b_zip : mg "zip" = none
  b_repr : mg "repr" = none
  mg_is_whole : mg "is_whole" = some (.ref a.f_is_whole)
  fn_is_whole : Fun K "is_whole" "is_whole" s_is_whole a.f_is_whole a.d_is_whole
  mg_is_whole_to : mg "is_whole_to" = some (.ref a.f_is_whole_to)
  fn_is_whole_to : Fun K "is_whole_to" "is_whole_to" s_is_whole_to a.f_is_whole_to a.d_is_whole_to
  mg_bits_of : mg "bits_of" = some (.ref a.f_bits_of)
  fn_bits_of : Fun K "bits_of" "bits_of" s_bits_of a.f_bits_of a.d_bits_of
  mg__law_bag : mg "_law_bag" = some (.ref a.f__law_bag)
  fn__law_bag : Fun K "_law_bag" "_law_bag" s__law_bag a.f__law_bag a.d__law_bag
  mg__law_draw : mg "_law_draw" = some (.ref a.f__law_draw)
  fn__law_draw : Fun K "_law_draw" "_law_draw" s__law_draw a.f__law_draw a.d__law_draw
  mg__law_same : mg "_law_same" = some (.ref a.f__law_same)
  fn__law_same : Fun K "_law_same" "_law_same" s__law_same a.f__law_same a.d__law_same
  mg__law_odd_value : mg "_law_odd_value" = some (.ref a.f__law_odd_value)
  fn__law_odd_value : Fun K "_law_odd_value" "_law_odd_value" s__law_odd_value a.f__law_odd_value a.d__law_odd_value
  mg__law_signs : mg "_law_signs" = some (.ref a.f__law_signs)
  fn__law_signs : Fun K "_law_signs" "_law_signs" s__law_signs a.f__law_signs a.d__law_signs
  mg__law_right : mg "_law_right" = some (.ref a.f__law_right)
  fn__law_right : Fun K "_law_right" "_law_right" s__law_right a.f__law_right a.d__law_right
  mg__law_digits_right : mg "_law_digits_right" = some (.ref a.f__law_digits_right)
  fn__law_digits_right : Fun K "_law_digits_right" "_law_digits_right" s__law_digits_right a.f__law_digits_right a.d__law_digits_right
  mg_Mode : mg "Mode" = some (.ref a.f_Mode)
  c_Mode : Cls K a.f_Mode
  n_number_Mode : NoAttr K a.f_Mode "_number"
  mk_Mode : Mk K a.f_Mode a.f_ModeD_initD
  fn_ModeD_initD : Fun K "__init__" "Mode.__init__" s_ModeD_initD a.f_ModeD_initD a.d_ModeD_initD
  p_Mode_number : PropOf K a.f_Mode "number" a.p_Mode_number a.f_Mode_number
  fn_Mode_number : Fun K "number" "Mode.number" s_Mode_number a.f_Mode_number a.d_Mode_number
  p_Mode_digits : PropOf K a.f_Mode "digits" a.p_Mode_digits a.f_Mode_digits
  fn_Mode_digits : Fun K "digits" "Mode.digits" s_Mode_digits a.f_Mode_digits a.d_Mode_digits
  m_ModeD_lenD : Meth K a.f_Mode "__len__" a.f_ModeD_lenD
  fn_ModeD_lenD : Fun K "__len__" "Mode.__len__" s_ModeD_lenD a.f_ModeD_lenD a.d_ModeD_lenD
  m_ModeD_boolD : Meth K a.f_Mode "__bool__" a.f_ModeD_boolD
  fn_ModeD_boolD : Fun K "__bool__" "Mode.__bool__" s_ModeD_boolD a.f_ModeD_boolD a.d_ModeD_boolD
  m_ModeD_eqD : Meth K a.f_Mode "__eq__" a.f_ModeD_eqD
  fn_ModeD_eqD : Fun K "__eq__" "Mode.__eq__" s_ModeD_eqD a.f_ModeD_eqD a.d_ModeD_eqD
  m_ModeD_strD : Meth K a.f_Mode "__str__" a.f_ModeD_strD
  fn_ModeD_strD : Fun K "__str__" "Mode.__str__" s_ModeD_strD a.f_ModeD_strD a.d_ModeD_strD
  m_ModeD_reprD : Meth K a.f_Mode "__repr__" a.f_ModeD_reprD
  fn_ModeD_reprD : Fun K "__repr__" "Mode.__repr__" s_ModeD_reprD a.f_ModeD_reprD a.d_ModeD_reprD
  r_Mode : ClX.CRead K a.f_Mode (.type "type")
  k_Mode_MOST : ∃ t, ClX.CVal K a.f_Mode (.type "type") "MOST" (.int 511) (.int 511 t)
  m_Mode_of : SMet K a.f_Mode "of" a.p_Mode_of a.f_Mode_of
  fn_Mode_of : Fun K "of" "Mode.of" s_Mode_of a.f_Mode_of a.d_Mode_of
  m_Mode_uniform : SMet K a.f_Mode "uniform" a.p_Mode_uniform a.f_Mode_uniform
  fn_Mode_uniform : Fun K "uniform" "Mode.uniform" s_Mode_uniform a.f_Mode_uniform a.d_Mode_uniform
  ia_Mode : PySem.W.findIn K (.ref a.f_Mode) "__class__" = some (some (.builtin "object.__class__"))
  im_Mode : PySem.W.mroIn K a.f_Mode (.type "object") = some true
  is_Mode : PySem.W.kitOne K (.ref a.f_Mode) (.ref a.f_Mode) = some true
  ii_Mode : PySem.W.kitOne K (.type "int") (.ref a.f_Mode) = some false
  in_ : PySem.W.specialIn K (.builtin "object.__class__") "__get__" = some (some (.builtin "getset_descriptor.__get__"))
  it_ : PySem.W.takesIn K (.builtin "object.__class__") = some true
  mg_BadMode : mg "BadMode" = some (.ref a.x_BadMode)
  mg_ModesError : mg "ModesError" = some (.ref a.x_ModesError)
  mg_BadInput : mg "BadInput" = some (.ref a.x_BadInput)
  mg_NoWay : mg "NoWay" = some (.ref a.x_NoWay)
  mg_BadText : mg "BadText" = some (.ref a.x_BadText)
  ks_BadInput : PySem.W.kitOne K (.ref a.x_BadMode) (.ref a.x_BadInput) = some true
  ks_NoWay : PySem.W.kitOne K (.ref a.x_BadMode) (.ref a.x_NoWay) = some false
  ks_BadText : PySem.W.kitOne K (.ref a.x_BadMode) (.ref a.x_BadText) = some false
  ks_BadMode : PySem.W.kitOne K (.ref a.x_BadMode) (.ref a.x_BadMode) = some true
  ks_ValueError : PySem.W.kitOne K (.ref a.x_BadMode) (.type "ValueError") = some true
  ec_BadMode : ExcC K a.x_BadMode
  mg__law_heard : mg "_law_heard" = some (.ref a.f__law_heard)
  fn__law_heard : Fun K "_law_heard" "_law_heard" s__law_heard a.f__law_heard a.d__law_heard
  ox_BadMode : OexC K a.x_BadMode
  ic_BadMode : PySem.W.findIn K (.ref a.x_BadMode) "__init__" = some (some (.ref a.f_BadModeD_initD))
  it_BadMode : PySem.W.typeIn K (.ref a.f_BadModeD_initD) = some (.type "function")
  fn_BadModeD_initD : Fun K "__init__" "BadMode.__init__" s_BadModeD_initD a.f_BadModeD_initD a.d_BadModeD_initD
  np_BadMode : PySem.W.findIn K (.ref a.x_BadMode) "part" = some none
  em_BadMode : PySem.W.exmOne K (.ref a.x_BadMode) (.ref a.x_ModesError) = some true
  cr : ∃ oc od kV doc pm an ct osl, a.d__law_digits_right = PySem.W.fnOf "_law_digits_right" "_law_digits_right" (defArgs s__law_digits_right) (defBody s__law_digits_right) (defScope s__law_digits_right) .none kV doc pm an (.ref a.cR) ct ∧ K.lookup a.f__law_digits_right = some ⟨oc, od, .func a.d__law_digits_right, osl⟩
  cr_code : PySem.W.codeIn K (.ref a.cR) "_law_digits_right" = true
  PRP0 : a.PR ≠ a.P0
  nf_Mode : PySem.W.notFirst K a.f_Mode (.ref a.f_Mode) = true
  nf_NoneType : PySem.W.notFirst K a.f_Mode (.type "NoneType") = true
  nf_bool : PySem.W.notFirst K a.f_Mode (.type "bool") = true
  nf_str : PySem.W.notFirst K a.f_Mode (.type "str") = true
  nf_tuple : PySem.W.notFirst K a.f_Mode (.type "tuple") = true
  nf_list : PySem.W.notFirst K a.f_Mode (.type "list") = true
  nf_dict : PySem.W.notFirst K a.f_Mode (.type "dict") = true
  nf_int : PySem.W.notFirst K a.f_Mode (.type "int") = true
  nt_NoneType : PySem.W.kitOne K (.type "NoneType") (.ref a.f_Mode) = some false
  nt_bool : PySem.W.kitOne K (.type "bool") (.ref a.f_Mode) = some false
  nt_str : PySem.W.kitOne K (.type "str") (.ref a.f_Mode) = some false
  nt_tuple : PySem.W.kitOne K (.type "tuple") (.ref a.f_Mode) = some false
  nt_list : PySem.W.kitOne K (.type "list") (.ref a.f_Mode) = some false
  nt_dict : PySem.W.kitOne K (.type "dict") (.ref a.f_Mode) = some false
  mg_NINE_BITS : mg "NINE_BITS" = some (.ref a.k_NINE_BITS)
  t_NINE_BITS : ∀ H, SqT K H a.k_NINE_BITS ([256, 128, 64, 32, 16, 8, 4, 2, 1].map V.int)
  mg_NINE_SIGNS : ∃ t, mg "NINE_SIGNS" = some (.str "rwxrwxrwx" t)
theorem bd_is_whole {w : World} {K : PySem.W.Frag} {mg : Str → Option Value} {a : Ads} (T : Txt w K mg a) : Binds K a.d_is_whole ["value"] [] := T.fn_is_whole.binds (ps := ["value"]) fun _ _ _ _ _ _ us hl => match us, hl with | [_], _ => rfl
theorem bd_is_whole_to {w : World} {K : PySem.W.Frag} {mg : Str → Option Value} {a : Ads} (T : Txt w K mg a) : Binds K a.d_is_whole_to ["value", "most"] [] := T.fn_is_whole_to.binds (ps := ["value", "most"]) fun _ _ _ _ _ _ us hl => match us, hl with | [_, _], _ => rfl
theorem bd_bits_of {w : World} {K : PySem.W.Frag} {mg : Str → Option Value} {a : Ads} (T : Txt w K mg a) : Binds K a.d_bits_of ["pattern", "weight"] [] := T.fn_bits_of.binds (ps := ["pattern", "weight"]) fun _ _ _ _ _ _ us hl => match us, hl with | [_, _], _ => rfl
theorem bd__law_bag {w : World} {K : PySem.W.Frag} {mg : Str → Option Value} {a : Ads} (T : Txt w K mg a) : Binds K a.d__law_bag ["_law_script"] [] := T.fn__law_bag.binds (ps := ["_law_script"]) fun _ _ _ _ _ _ us hl => match us, hl with | [_], _ => rfl
theorem bd__law_draw {w : World} {K : PySem.W.Frag} {mg : Str → Option Value} {a : Ads} (T : Txt w K mg a) : Binds K a.d__law_draw ["_law_bag_here", "_law_limit"] [] := T.fn__law_draw.binds (ps := ["_law_bag_here", "_law_limit"]) fun _ _ _ _ _ _ us hl => match us, hl with | [_, _], _ => rfl
theorem bd__law_same {w : World} {K : PySem.W.Frag} {mg : Str → Option Value} {a : Ads} (T : Txt w K mg a) : Binds K a.d__law_same ["_law_actual", "_law_expected"] [] := T.fn__law_same.binds (ps := ["_law_actual", "_law_expected"]) fun _ _ _ _ _ _ us hl => match us, hl with | [_, _], _ => rfl
theorem bd__law_odd_value {w : World} {K : PySem.W.Frag} {mg : Str → Option Value} {a : Ads} (T : Txt w K mg a) : Binds K a.d__law_odd_value ["_law_bag_here"] [] := T.fn__law_odd_value.binds (ps := ["_law_bag_here"]) fun _ _ _ _ _ _ us hl => match us, hl with | [_], _ => rfl
theorem bd__law_signs {w : World} {K : PySem.W.Frag} {mg : Str → Option Value} {a : Ads} (T : Txt w K mg a) : Binds K a.d__law_signs ["_law_amount"] [] := T.fn__law_signs.binds (ps := ["_law_amount"]) fun _ _ _ _ _ _ us hl => match us, hl with | [_], _ => rfl
theorem bd__law_right {w : World} {K : PySem.W.Frag} {mg : Str → Option Value} {a : Ads} (T : Txt w K mg a) : Binds K a.d__law_right ["_law_mode", "_law_amount"] [] := T.fn__law_right.binds (ps := ["_law_mode", "_law_amount"]) fun _ _ _ _ _ _ us hl => match us, hl with | [_, _], _ => rfl
theorem bd__law_digits_right {w : World} {K : PySem.W.Frag} {mg : Str → Option Value} {a : Ads} (T : Txt w K mg a) : Binds K a.d__law_digits_right ["_law_bag_here"] [] := T.fn__law_digits_right.binds (ps := ["_law_bag_here"]) fun _ _ _ _ _ _ us hl => match us, hl with | [_], _ => rfl
theorem bd_ModeD_initD {w : World} {K : PySem.W.Frag} {mg : Str → Option Value} {a : Ads} (T : Txt w K mg a) : Binds K a.d_ModeD_initD ["self", "number"] [] := T.fn_ModeD_initD.binds (ps := ["self", "number"]) fun _ _ _ _ _ _ us hl => match us, hl with | [_, _], _ => rfl
theorem bd_Mode_number {w : World} {K : PySem.W.Frag} {mg : Str → Option Value} {a : Ads} (T : Txt w K mg a) : Binds K a.d_Mode_number ["self"] [] := T.fn_Mode_number.binds (ps := ["self"]) fun _ _ _ _ _ _ us hl => match us, hl with | [_], _ => rfl
theorem bd_Mode_digits {w : World} {K : PySem.W.Frag} {mg : Str → Option Value} {a : Ads} (T : Txt w K mg a) : Binds K a.d_Mode_digits ["self"] [] := T.fn_Mode_digits.binds (ps := ["self"]) fun _ _ _ _ _ _ us hl => match us, hl with | [_], _ => rfl
theorem bd_ModeD_lenD {w : World} {K : PySem.W.Frag} {mg : Str → Option Value} {a : Ads} (T : Txt w K mg a) : Binds K a.d_ModeD_lenD ["self"] [] := T.fn_ModeD_lenD.binds (ps := ["self"]) fun _ _ _ _ _ _ us hl => match us, hl with | [_], _ => rfl
theorem bd_ModeD_boolD {w : World} {K : PySem.W.Frag} {mg : Str → Option Value} {a : Ads} (T : Txt w K mg a) : Binds K a.d_ModeD_boolD ["self"] [] := T.fn_ModeD_boolD.binds (ps := ["self"]) fun _ _ _ _ _ _ us hl => match us, hl with | [_], _ => rfl
theorem bd_ModeD_eqD {w : World} {K : PySem.W.Frag} {mg : Str → Option Value} {a : Ads} (T : Txt w K mg a) : Binds K a.d_ModeD_eqD ["self", "other"] [] := T.fn_ModeD_eqD.binds (ps := ["self", "other"]) fun _ _ _ _ _ _ us hl => match us, hl with | [_, _], _ => rfl
theorem bd_ModeD_strD {w : World} {K : PySem.W.Frag} {mg : Str → Option Value} {a : Ads} (T : Txt w K mg a) : Binds K a.d_ModeD_strD ["self"] [] := T.fn_ModeD_strD.binds (ps := ["self"]) fun _ _ _ _ _ _ us hl => match us, hl with | [_], _ => rfl
theorem bd_ModeD_reprD {w : World} {K : PySem.W.Frag} {mg : Str → Option Value} {a : Ads} (T : Txt w K mg a) : Binds K a.d_ModeD_reprD ["self"] [] := T.fn_ModeD_reprD.binds (ps := ["self"]) fun _ _ _ _ _ _ us hl => match us, hl with | [_], _ => rfl
theorem bd_Mode_of {w : World} {K : PySem.W.Frag} {mg : Str → Option Value} {a : Ads} (T : Txt w K mg a) : Binds K a.d_Mode_of ["owner", "group", "others"] [] := T.fn_Mode_of.binds (ps := ["owner", "group", "others"]) fun _ _ _ _ _ _ us hl => match us, hl with | [_, _, _], _ => rfl
theorem bd_Mode_uniform {w : World} {K : PySem.W.Frag} {mg : Str → Option Value} {a : Ads} (T : Txt w K mg a) : Binds K a.d_Mode_uniform ["pattern"] [] := T.fn_Mode_uniform.binds (ps := ["pattern"]) fun _ _ _ _ _ _ us hl => match us, hl with | [_], _ => rfl
theorem bd_BadModeD_initD {w : World} {K : PySem.W.Frag} {mg : Str → Option Value} {a : Ads} (T : Txt w K mg a) : Binds K a.d_BadModeD_initD ["self", "part"] [] := T.fn_BadModeD_initD.binds (ps := ["self", "part"]) fun _ _ _ _ _ _ us hl => match us, hl with | [_, _], _ => rfl
theorem bd__law_heard {w : World} {K : PySem.W.Frag} {mg : Str → Option Value} {a : Ads} (T : Txt w K mg a) : Binds K a.d__law_heard ["_law_ask"] [] := T.fn__law_heard.binds (ps := ["_law_ask"]) fun _ _ _ _ _ _ us hl => match us, hl with | [_], _ => rfl
end KD
set_option Elab.async false
set_option linter.all false
set_option maxRecDepth 100000
set_option maxHeartbeats 4000000
namespace KD
open PySem PySem.Spec PyProof.Rows L2 Evl
local macro_rules | `(tactic| walk_at "ev") => `(tactic| repeat' (first | exact ev_c | exact ev_var rfl | exact rv_I0 | refine' rv_I ?_ | refine' rv_eq ?_ | refine' rv_ne ?_ | refine' ev_op ?_ ?_ ?_ | exact ea_nil | refine' ea_cons ?_ ?_ | refine' et_test ?_ | refine' et_B ?_ | refine' et_not ?_ | refine' ev_notV ?_))
/-! what a value evaluates to: further words -/
/-- a new instance -/
def EvI (te : TE) (σ : L2.St) (H : Hp) (C : Addr) (fs : List (Str × V)) : Prop := ∀ H1, Ex H H1 → ∀ Q : VK, (∀ p dx H2, H1 p = none → Ex H1 H2 → H2 p = some (.ins C dx fs) → Q (.ref p) H2) → te σ H1 Q
/-- a tuple, made or old -/
def EvW (K : PySem.W.Frag) (te : TE) (σ : L2.St) (H : Hp) (xs : List V) : Prop := ∀ H1, Ex H H1 → ∀ Q : VK, (∀ p H2, Ex H1 H2 → SqT K H2 p xs → Q (.ref p) H2) → te σ H1 Q
section
variable {σ : L2.St} {K : PySem.W.Frag} {H H' : Hp} {tx te ta tb : TE} {u t : TT} {v x y z : V} {r : R2}
theorem ev_isi {ta : TA} {c : V} {t u : Value} {b : Bool} (ha : EvA ta σ H [x, c]) (k : ClsV c u) (ty : ∀ H', Ex H H' → TyX K H' x t) (e : PySem.W.kitOne K t u = some b) : Ev (tCB (rIsi K) ta) σ H (.bl b) := fun H1 e1 Q q =>
  ha H1 e1 _ fun H2 e2 => ⟨x, c, t, u, b, rfl, k, ty H2 (e1.trans e2), e, q H2 e2⟩
theorem ev_chain {r r' : R2} {tc : TE} {k1 k2 : Bool} {z : V} (ha : Ev ta σ H x) (hb : Ev tb σ H y) (h1 : RV r x y H (.bl k1)) (hc : k1 = true → Ev tc σ H z ∧ RV r' y z H (.bl k2)) : Ev (tChain r r' ta tb tc) σ H (.bl (k1 && k2)) := fun H1 e1 Q q =>
  ha H1 e1 _ fun H2 e2 => hb H2 (e1.trans e2) _ fun H3 e3 => h1 H3 ((e1.trans e2).trans e3) _ fun H4 e4 => ⟨k1, rfl, by
    cases k1 with
    | true =>
      obtain ⟨h3, h4⟩ := hc rfl
      exact h3 H4 (((e1.trans e2).trans e3).trans e4) _ fun H5 e5 => h4 H5 ((((e1.trans e2).trans e3).trans e4).trans e5) _ fun H6 e6 => q H6 ((((e2.trans e3).trans e4).trans e5).trans e6)
    | false => exact q H4 ((e2.trans e3).trans e4)⟩
theorem ev_cval {ta : TE} {C : Addr} {mc : Value} {f : Str} {u : Value} (h : Ev ta σ H (.ref C)) (r : ClX.CRead K C mc) (k : ClX.CVal K C mc f v u) : Ev (ClX.tCVal K ta f) σ H v := fun H1 e Q q => h H1 e _ fun H2 e2 => ⟨C, mc, v, u, rfl, r, k, q H2 e2⟩
theorem ev_prop {C a : Addr} {dx : Addr} {fs : List (Str × V)} {sp : Sp} {E : XK} (h : Ev ta σ H (.ref a)) (ho : H a = some (.ins C dx fs)) (hs : SpV sp [.ref a] H v) : Ev (tProp C sp [] E ta) σ H v := fun H1 e Q q =>
  h H1 e _ fun H2 e2 => ⟨a, dx, fs, rfl, e2 _ _ (e _ _ ho), hs H2 (e.trans e2) Q (fun H3 e3 => q H3 (e2.trans e3)) E⟩
theorem ev_fld {C a : Addr} {dx : Addr} {fs : List (Str × V)} {f : Str} (h : Ev ta σ H (.ref a)) (ho : H a = some (.ins C dx fs)) (c : Cls K C) (n : NoAttr K C f) (l : fs.lookup f = some v) : Ev (tFld K ta f) σ H v := fun H1 e Q q =>
  h H1 e _ fun H2 e2 => ⟨a, C, dx, fs, v, rfl, e2 _ _ (e _ _ ho), c, n, l, q H2 e2⟩
theorem spv_get {C a : Addr} {dx : Addr} {fs : List (Str × V)} {f : Str} (ho : H a = some (.ins C dx fs)) (l : fs.lookup f = some v) : SpV (getSp C f) [.ref a] H v := fun H1 e Q q E => ⟨a, dx, fs, v, rfl, e _ _ ho, l, q H1 (Ex.refl _)⟩
end
/-! promises -/
def spTrue1 : Sp := fun vs H Q _ => ∃ i : Int, vs = [.int i] ∧ ∀ H', Ex H H' → Q (.bl true) H'
def spTrue2 : Sp := fun vs H Q _ => ∃ i m : Int, vs = [.int i, .int m] ∧ 0 ≤ i ∧ i ≤ m ∧ ∀ H', Ex H H' → Q (.bl true) H'
/-- a Mode of number n stands at p -/
def ModeAt (a : Ads) (H : Hp) (p : Addr) (n : Nat) : Prop := ∃ dx, H p = some (.ins a.f_Mode dx [(("_number" : Str), .int n)])
theorem ModeAt.mono {a : Ads} {H H' : Hp} {p : Addr} {n : Nat} (m : ModeAt a H p n) (e : Ex H H') : ModeAt a H' p n := by
  obtain ⟨dx, h⟩ := m
  exact ⟨dx, e _ _ h⟩
def spMode (a : Ads) : Sp := fun vs H Q _ => ∃ (p dx : Addr) (n : Nat), vs = [.ref p, .int n] ∧ n < 512 ∧ H p = some (.ins a.f_Mode dx []) ∧ ∀ H', (∀ b o, H b = some o → b ≠ p → H' b = some o) → H' p = some (.ins a.f_Mode dx [(("_number" : Str), .int n)]) → Q .non H'
section
variable {P : Program} {w : World} {K : PySem.W.Frag} {mg : Str → Option Value} {base : Heap} {a : Ads}
theorem ok_is_whole (T : Txt w K mg a) : FnOk P w K mg base CX0 1 a.f_is_whole a.d_is_whole ["value"] spTrue1 := by
  refine T.fn_is_whole.ok sc_is_whole (fun vs H Q E h => ?_) (fun cdv A outer s H vs Q E hr h => ?_)
  · obtain ⟨_, rfl, _⟩ := h
    rfl
  · obtain ⟨i, rfl, k⟩ := h
    refine ⟨_, (pss_one (ps_ret (pe_and (pe_callB call_isi (by rfl) T.b_isinstance PyProof.Rows.boot_isinstance (pa_cons (pv 0) (pa_cons (pe_bltn (v := .ty "int") (by rfl) T.b_int (by decide +kernel) rfl) pa_nil))) (pe_one (pe_not (pe_callB call_isi (by rfl) T.b_isinstance PyProof.Rows.boot_isinstance (pa_cons (pv 0) (pa_cons (pe_bltn (v := .ty "bool") (by rfl) T.b_bool (by decide +kernel) rfl) pa_nil)))))))), ?_⟩
    refine s_ret (v := .bl true) (ev_andV (a := true) (ev_isi (by walk_at "ev") (.ty _) (fun _ _ => .base (.int i)) (kit_ty (by decide +kernel))) fun _ => ev_notV (a := false) (ev_isi (by walk_at "ev") (.ty _) (fun _ _ => .base (.int i)) (kit_ty (by decide +kernel)))) fun H1 e1 => ?_
    exact k H1 e1
theorem ok_is_whole_to (T : Txt w K mg a) : FnOk P w K mg base CX0 3 a.f_is_whole_to a.d_is_whole_to ["value", "most"] spTrue2 := by
  have G_is_whole : FnOk P w K mg base CX0 1 _ _ _ _ := ok_is_whole T
  refine T.fn_is_whole_to.ok sc_is_whole_to (fun vs H Q E h => ?_) (fun cdv A outer s H vs Q E hr h => ?_)
  · obtain ⟨_, _, rfl, _⟩ := h
    rfl
  · obtain ⟨i, m, rfl, h0, h1, k⟩ := h
    have hrc : Room 1 _ := hr.mono (by decide)
    refine ⟨_, (pss_one (ps_ret (pe_and (pe_call G_is_whole hrc rfl T.mg_is_whole T.fn_is_whole.kp (bd_is_whole T) .nil pass0 (pa_cons (pv 0) pa_nil)) (pe_one (pe_chain op_le op_le pe_int (pv 0) (pv 1)))))), ?_⟩
    refine s_ret (v := .bl true) (ev_is (ev_andV (a := true) (ev_call (vs := [.int i]) (by walk_at "ev") fun H1 e Q q E => ⟨i, rfl, q⟩) fun _ => ev_chain (by walk_at "ev") (by walk_at "ev") (by walk_at "ev") fun _ => ⟨by walk_at "ev", by walk_at "ev"⟩) ?_) fun H1 e1 => ?_
    · rw [decide_eq_true h0, decide_eq_true h1] <;> rfl
    exact k H1 e1
theorem ok_Mode_init (T : Txt w K mg a) : FnOk P w K mg base CX0 5 a.f_ModeD_initD a.d_ModeD_initD ["self", "number"] (spMode a) := by
  have G_is_whole_to : FnOk P w K mg base CX0 3 _ _ _ _ := ok_is_whole_to T
  refine T.fn_ModeD_initD.ok sc_ModeD_initD (fun vs H Q E h => ?_) (fun cdv A outer s H vs Q E hr h => ?_)
  · obtain ⟨_, _, _, rfl, _⟩ := h
    rfl
  · obtain ⟨p, dx, n, rfl, hn, hp, k⟩ := h
    have hrc : Room 3 _ := hr.mono (by decide)
    obtain ⟨tm, hm⟩ := T.k_Mode_MOST
    refine ⟨_, (pss_cons (ps_if (pt_not (pt_val (pe_call G_is_whole_to hrc rfl T.mg_is_whole_to T.fn_is_whole_to.kp (bd_is_whole_to T) .nil pass0 (pa_cons (pv 1) (pa_cons (ClX.pe_cval (pe_glob (v := .ref a.f_Mode) rfl T.mg_Mode rfl)) pa_nil))))) (pss_one ps_never) pss_nil)
    (pss_one (ps_fld (pv 0) (pv 1) rfl))), ?_⟩
    refine q_when (b := false) (et_not (a := true) (et_B (ev_call (vs := [.int n, .int 511]) (ea_cons (ev_var rfl) (ea_cons (ev_cval ev_c T.r_Mode hm) ea_nil)) fun H1 e Q q E => ⟨n, 511, rfl, by omega, by omega, q⟩))) (fun z => nomatch z) fun _ H1 e1 => ?_
    refine ⟨_, rfl, _, rfl, p, a.f_Mode, dx, [], rfl, e1 _ _ hp, T.c_Mode, T.n_number_Mode, (by show 0 < 1000; decide), ?_⟩
    exact k _ (fun b o hb ne => by rw [upd_ne ne]; exact e1 _ _ hb) upd_same
theorem ok_Mode_number (T : Txt w K mg a) : FnOk P w K mg base CX0 1 a.f_Mode_number a.d_Mode_number ["self"] (getSp a.f_Mode "_number") := by
  obtain ⟨oc, od, kV, doc, pm, an, cdv, ct, osl, e, lk, hcd⟩ := T.fn_Mode_number.ex
  rw [e]
  exact fn_getter (by rw [← e]; exact lk) hcd sc_Mode_number rfl rfl T.c_Mode T.n_number_Mode
theorem tyx_mode (T : Txt w K mg a) {H : Hp} {p : Addr} {n : Nat} (m : ModeAt a H p n) : TyX K H (.ref p) (.ref a.f_Mode) := by
  obtain ⟨dx, h⟩ := m
  exact .base (.ins h T.c_Mode T.ia_Mode T.in_ T.it_ T.im_Mode)
end
end KD
set_option Elab.async false
set_option linter.all false
set_option maxRecDepth 100000
set_option maxHeartbeats 4000000
namespace KD
open PySem PySem.Spec PyProof.Rows L2 Evl
local macro_rules | `(tactic| walk_at "ev") => `(tactic| repeat' (first | exact ev_c | exact ev_var rfl | exact rv_I0 | refine' rv_I ?_ | refine' rv_eq ?_ | refine' rv_ne ?_ | refine' ev_op ?_ ?_ ?_ | exact ea_nil | refine' ea_cons ?_ ?_ | refine' et_test ?_ | refine' et_B ?_ | refine' et_not ?_ | refine' ev_notV ?_))

section
variable {σ : L2.St} {K : PySem.W.Frag} {H H' : Hp} {tx te ta tb : TE} {u t : TT} {v x y z : V} {r : R2}
/-- a comprehension over the signs of a text -/
theorem el_lcS {s : Str} {tl' : TE} {j : Nat} {vs : List Nat} (f : Nat → Bool) (v : Nat → V) (h : Ev tl' σ H (.str s)) (hz : s.cps.size ≤ 40000) (hw : ∀ x, wipe ((wipe σ vs).set j (some x)) vs = wipe σ vs)
    (ht : ∀ (i : Nat) (c : Nat) H1, Ex H H1 → s.cps[i]? = some c → EvT t ((wipe σ vs).set j (some (.str ⟨#[c]⟩))) H1 (f i)) (he : ∀ (i : Nat) (c : Nat) H1, Ex H H1 → s.cps[i]? = some c → f i = true → Ev te ((wipe σ vs).set j (some (.str ⟨#[c]⟩))) H1 (v i)) :
    EvL (tLc (iStr tl') (gName j) t te vs) σ H (given s.cps.size f v) := fun H0 e Q q => h H0 e _ fun H1 e1 => ⟨s, rfl, fun Dl hD =>
  ⟨fun i m H' => m = s.cps.size - i ∧ i ≤ s.cps.size ∧ Cw H1 f v Dl i H', ⟨s.cps.size, by simp, Nat.zero_le _, hD, Ex.new hD, upd_same⟩, by
    rintro i m H' ⟨rfl, hi, p⟩
    by_cases hlt : i < s.cps.size
    · refine .inr ⟨hlt, Cw H1 f v Dl (i + 1), fun H2 p' => ⟨s.cps.size - (i + 1), by omega, rfl, hlt, p'⟩, ?_⟩
      rintro x H2 ⟨rfl, c, hc, rfl⟩
      exact ⟨hw _, cw_turn p (by omega) (ht i c H1 (e.trans e1) hc) (fun hf => he i c H1 (e.trans e1) hc hf)⟩
    · have e2 : i = s.cps.size := by omega
      subst e2
      exact .inl ⟨Nat.le_refl _, q Dl H' (fresh_back e1 p.1) (e1.trans p.2.1) p.2.2⟩⟩⟩
/-- over a tuple -/
theorem el_lcT {a : Addr} {xs : List V} {tl : TE} {g : TG} {vs : List Nat} {σ' : V → L2.St} (f : Nat → Bool) (v : Nat → V) (h : Ev tl σ H (.ref a)) (hx : SqT K H a xs) (hz : xs.length ≤ 40000)
    (hg : ∀ (i : Nat) (x : V) H1 (Q : L2.St → Hp → Prop), Ex H H1 → xs[i]? = some x → Q (σ' x) H1 → g x (wipe σ vs) H1 Q) (hw : ∀ x, wipe (σ' x) vs = wipe σ vs)
    (ht : ∀ (i : Nat) (x : V) H1, Ex H H1 → xs[i]? = some x → EvT t (σ' x) H1 (f i)) (he : ∀ (i : Nat) (x : V) H1, Ex H H1 → xs[i]? = some x → f i = true → Ev te (σ' x) H1 (v i)) :
    EvL (tLc (iTup K tl) g t te vs) σ H (given xs.length f v) := fun H0 e Q q => h H0 e _ fun H1 e1 => ⟨a, rfl, ⟨xs, ex_t (e.trans e1) hx⟩, fun Dl hD =>
  lc_tup (xs := xs) (Cw H1 f v Dl) ⟨hD, Ex.new hD, upd_same⟩ (fun i H' _ p => ex_t ((e.trans e1).trans p.2.1) hx)
    (fun i x H' hi p => hg i x H' _ ((e.trans e1).trans p.2.1) hi ⟨hw x, cw_turn p (by have := (List.getElem?_eq_some_iff.mp hi).1; omega) (ht i x H1 (e.trans e1) hi) (fun hf => he i x H1 (e.trans e1) hi hf)⟩)
    (fun He cw => q Dl He (fresh_back e1 cw.1) (e1.trans cw.2.1) cw.2.2)⟩
theorem et_yes : EvT tYes σ H true := fun H1 _ _ q => q H1 (Ex.refl H1)
theorem ev_join {s : Str} {ys : List Str} (ha : Ev ta σ H (.str s)) (hb : EvL te σ H (ys.map V.str)) (hz : (ys.map (·.length)).sum + ys.length * s.length ≤ 16777216) :
    Ev (tM1 (fun x xs H Q => ∃ a p, ∃ ys : List Str, x = .str a ∧ xs = [.ref p] ∧ (SqL K H p (ys.map V.str) ∨ SqT K H p (ys.map V.str)) ∧ (ys.map (·.length)).sum + ys.length * a.length ≤ 16777216 ∧ Q (.str (Txt.join a ys)) H) ta te) σ H (.str (Txt.join s ys)) := fun H1 e Q q =>
  ha H1 e _ fun H2 e2 => ⟨⟨s, rfl⟩, hb H2 (e.trans e2) _ fun p H3 _ e3 h3 => ⟨s, p, ys, rfl, rfl, .inl (sq_of h3), hz, q H3 (e2.trans e3)⟩⟩
theorem eu_tuple {xs : List V} (h : EvL te σ H xs) : EvU (tCB (fun xs H Q => ∃ p ys, xs = [.ref p] ∧ ((SqL K H p ys ∧ ∀ l, H l = none → Q (.ref l) (upd H l (.tup ys))) ∨ (SqT K H p ys ∧ Q (.ref p) H))) (tCons te tNil)) σ H xs := fun H1 e Q q =>
  h H1 e _ fun p H2 _ e2 h2 => ⟨p, xs, rfl, .inl ⟨sq_of h2, fun l hl => q l _ (fresh_back e2 hl) (e2.trans (Ex.new hl)) upd_same⟩⟩
theorem ev_sum {ns : List Int} (h : EvL te σ H (ns.map V.int)) : Ev (tCB (rSum K) (tCons te tNil)) σ H (.int ns.sum) := fun H1 e Q q =>
  h H1 e _ fun p H2 _ e2 h2 => ⟨p, ns, rfl, sq_of h2, q H2 e2⟩
theorem el_is {xs ys : List V} (h : EvL te σ H xs) (e : xs = ys) : EvL te σ H ys := e ▸ h
theorem eu_is {xs ys : List V} (h : EvU te σ H xs) (e : xs = ys) : EvU te σ H ys := e ▸ h
theorem rv_inS {c : Nat} {w : Str} : RV (fun x y H Q => ∃ (c : Nat) (z : Str), x = .str ⟨#[c]⟩ ∧ y = .str z ∧ Q (.bl (decide (c ∈ z.cps.toList))) H) (.str ⟨#[c]⟩) (.str w) H (.bl (decide (c ∈ w.cps.toList))) := fun H1 _ _ q => ⟨c, w, rfl, rfl, q H1 (Ex.refl H1)⟩
end
end KD
set_option Elab.async false
set_option linter.all false
set_option maxRecDepth 100000
set_option maxHeartbeats 4000000
namespace KD
open PySem PySem.Spec PyProof.Rows L2 Evl
local macro_rules | `(tactic| walk_at "ev") => `(tactic| repeat' (first | exact ev_c | exact ev_var rfl | exact rv_I0 | refine' rv_I ?_ | refine' rv_eq ?_ | refine' rv_ne ?_ | refine' ev_op ?_ ?_ ?_ | exact ea_nil | refine' ea_cons ?_ ?_ | refine' et_test ?_ | refine' et_B ?_ | refine' et_not ?_ | refine' ev_notV ?_))

theorem put_some {kvs : List (Key × V)} {k : Key} {v y : V} (h : valV kvs k = some y) : putK kvs k v = kvs.map (fun kv => if kv.1 = k then (kv.1, v) else kv) := by
  unfold putK; rw [valV_any, h]; exact if_pos rfl
/-- three different keys, merged -/
theorem merge3 {k1 k2 k3 : Key} {x y z : V} (h1 : k1 ≠ k2) (h2 : k1 ≠ k3) (h3 : k2 ≠ k3) : mergeK [] [(k1, x), (k2, y), (k3, z)] = [(k1, x), (k2, y), (k3, z)] := by
  have e1 : putK [] k1 x = [(k1, x)] := putK_new x rfl
  have e2 : putK [(k1, x)] k2 y = [(k1, x), (k2, y)] := putK_new y ((valV_neg h1).trans rfl)
  have e3 : putK [(k1, x), (k2, y)] k3 z = [(k1, x), (k2, y), (k3, z)] := putK_new z ((valV_neg h2).trans ((valV_neg h3).trans rfl))
  show putK (putK (putK [] k1 x) k2 y) k3 z = _
  rw [e1, e2, e3]
/-- a new dict -/
def EvD (te : TE) (σ : L2.St) (H : Hp) (kvs : List (Key × V)) : Prop := ∀ H1, Ex H H1 → ∀ Q : VK, (∀ p H2, H1 p = none → Ex H1 H2 → H2 p = some (.dK kvs) → Q (.ref p) H2) → te σ H1 Q
section
variable {K : PySem.W.Frag} {σ : L2.St} {H H' : Hp} {ta tb te tx tv : TE} {t u : TT} {x y z v : V} {r : R2} {D : Ends} {tz : TS}
theorem ed_disp3 {s1 s2 s3 : Str} {t1 t2 t3 v1 v2 v3 : TE} (k1 : Ev t1 σ H (.str s1)) (h1 : Ev v1 σ H x) (k2 : Ev t2 σ H (.str s2)) (h2 : Ev v2 σ H y) (k3 : Ev t3 σ H (.str s3)) (h3 : Ev v3 σ H z) (n1 : (Sum.inr s1 : Key) ≠ .inr s2) (n2 : (Sum.inr s1 : Key) ≠ .inr s3) (n3 : (Sum.inr s2 : Key) ≠ .inr s3) :
    EvD (tDisp [(t1, v1), (t2, v2), (t3, v3)]) σ H [(.inr s1, x), (.inr s2, y), (.inr s3, z)] := fun H1 e Q q p hp => by
  have e0 : Ex H (upd H1 p (.dK [])) := e.trans (Ex.new hp)
  refine k1 _ e0 _ fun H2 e2 => h1 H2 (e0.trans e2) _ fun H3 e3 => k2 H3 ((e0.trans e2).trans e3) _ fun H4 e4 => h2 H4 (((e0.trans e2).trans e3).trans e4) _ fun H5 e5 => k3 H5 ((((e0.trans e2).trans e3).trans e4).trans e5) _ fun H6 e6 => h3 H6 (((((e0.trans e2).trans e3).trans e4).trans e5).trans e6) _ fun H7 e7 => ?_
  have e27 : Ex (upd H1 p (.dK [])) H7 := ((((e2.trans e3).trans e4).trans e5).trans e6).trans e7
  refine ⟨e27 _ _ upd_same, [(.inr s1, x), (.inr s2, y), (.inr s3, z)], rfl, by show 3 ≤ 15; decide, ?_⟩
  rw [merge3 n1 n2 n3]
  exact q p _ hp (fun b o hb => by rw [upd_ne (ne_of_none hb hp)]; exact e27 _ _ (Ex.new hp _ _ hb)) upd_same
theorem q_asgD {i : Nat} {kvs : List (Key × V)} (h : EvD te σ H kvs) (k : ∀ p H1, H p = none → Ex H H1 → H1 p = some (.dK kvs) → tz D (σ.set i (some (.ref p))) H1) : tSeq (tAsg te (gName i)) tz D σ H := h H (Ex.refl H) _ fun p H1 hp e h1 => k p H1 hp e h1
theorem ev_dget {d : Addr} {kvs : List (Key × V)} {s : Str} (h : Ev ta σ H (.ref d)) (hk : Ev tb σ H (.str s)) (hd : H d = some (.dK kvs)) (e : valV kvs (.inr s) = some v) : Ev (tDGet ta tb) σ H v := fun H1 e1 Q q =>
  h H1 e1 _ fun H2 e2 => hk H2 (e1.trans e2) _ fun H3 e3 => ⟨d, v, rfl, by rw [← e]; exact DGet.k (k := .inr s) (e3 _ _ (e2 _ _ (e1 _ _ hd))), q H3 (e2.trans e3)⟩
theorem ev_dget2 {d : Addr} {kvs : List (Key × V)} {s : Str} (h : Ev ta σ H (.ref d)) (hk : Ev tb σ H (.str s)) (hx : Ev tx σ H x) (hd : H d = some (.dK kvs)) : Ev (tDGet2 ta tb tx) σ H ((valV kvs (.inr s)).getD x) := fun H1 e1 Q q =>
  h H1 e1 _ fun H2 e2 => ⟨d, rfl, .inl ⟨kvs, .inl (e2 _ _ (e1 _ _ hd))⟩, hk H2 (e1.trans e2) _ fun H3 e3 => hx H3 ((e1.trans e2).trans e3) _ fun H4 e4 => ⟨_, DGet.k (k := .inr s) (e4 _ _ (e3 _ _ (e2 _ _ (e1 _ _ hd)))), q H4 ((e2.trans e3).trans e4)⟩⟩
theorem et_dnotin {d : Addr} {kvs : List (Key × V)} {s : Str} (hk : Ev ta σ H (.str s)) (h : Ev tb σ H (.ref d)) (hd : H d = some (.dK kvs)) : EvT (tB (tDNotIn ta tb)) σ H (!(valV kvs (.inr s)).isSome) := fun H1 e1 Q q =>
  hk H1 e1 _ fun H2 e2 => h H2 (e1.trans e2) _ fun H3 e3 => ⟨d, _, rfl, DGet.k (k := .inr s) (e3 _ _ (e2 _ _ (e1 _ _ hd))), _, rfl, q H3 (e2.trans e3)⟩
theorem ed_copy {d : Addr} {kvs : List (Key × V)} (h : Ev ta σ H (.ref d)) (hd : H d = some (.dK kvs)) : EvD (tCB (fun xs H Q => ∃ (a : Addr) (kvs : List (Key × V)), xs = [V.ref a] ∧ Rd H a (.dK kvs) ∧ ∀ p, H p = none → Q (.ref p) (upd H p (.dK kvs))) (tCons ta tNil)) σ H kvs := fun H1 e1 Q q =>
  h H1 e1 _ fun H2 e2 => ⟨d, kvs, rfl, .inl (e2 _ _ (e1 _ _ hd)), fun p hp => q p _ (fresh_back e2 hp) (e2.trans (Ex.new hp)) upd_same⟩
theorem q_dput {d : Addr} {kvs : List (Key × V)} {s : Str} (hv : Ev tv σ H v) (h : Ev ta σ H (.ref d)) (hk : Ev tb σ H (.str s)) (hd : H d = some (.dK kvs)) (hl : kvs.length < 1000) (k : ∀ H1, Ex H H1 → D.nx σ (upd H1 d (.dK (putK kvs (.inr s) v)))) : sDPut ta tb tv D σ H :=
  hv H (Ex.refl H) _ fun H1 e1 => h H1 e1 _ fun H2 e2 => hk H2 (e1.trans e2) _ fun H3 e3 => ⟨d, _, rfl, DPut.k (k := .inr s) (e3 _ _ (e2 _ _ (e1 _ _ hd))) (small1000 (Nat.le_of_lt hl)), k H3 ((e1.trans e2).trans e3)⟩
/-- over the signs of a text -/
theorem q_forS {s : Str} {j : Nat} {ts : TS} (h : Ev te σ H (.str s)) (Pv : Nat → L2.St → Hp → Prop) (h0 : ∀ H1, Ex H H1 → Pv 0 σ H1)
    (hs : ∀ (i c : Nat) σ' H', s.cps.toList[i]? = some c → Pv i σ' H' → ts { D with nx := Pv (i + 1), ct := Pv (i + 1), bk := tz D } (σ'.set j (some (.str ⟨#[c]⟩))) H') (hd : ∀ σ' H', Pv s.cps.size σ' H' → tz D σ' H') : tSeq (tFor (iStr te) (gName j) ts) tz D σ H :=
  h H (Ex.refl H) _ fun H1 e1 => ⟨s, rfl, fun i m σ' H' => m = s.cps.size - i ∧ i ≤ s.cps.size ∧ Pv i σ' H', ⟨s.cps.size, by simp, Nat.zero_le _, h0 H1 e1⟩, by
    rintro i m σ' H' ⟨rfl, hi, p⟩
    by_cases hlt : i < s.cps.size
    · refine .inr ⟨hlt, Pv (i + 1), fun σ2 H2 p' => ⟨s.cps.size - (i + 1), by omega, rfl, hlt, p'⟩, ?_⟩
      rintro x H2 ⟨rfl, c, hc, rfl⟩
      rw [← Array.getElem?_toList] at hc
      exact hs i c σ' _ hc p
    · have e : i = s.cps.size := by omega
      subst e
      exact .inl ⟨Nat.le_refl _, hd σ' H' p⟩⟩
theorem q_asgTV {p : Addr} {xs : List V} {n : Nat} {tgs : TGs} (h : Ev te σ H (.ref p)) (hx : SqT K H p xs) (hl : xs.length = n) (k : ∀ H1, Ex H H1 → tgs xs σ H1 (tz D)) : tSeq (tAsg te (gTup K n tgs)) tz D σ H :=
  h H (Ex.refl _) _ fun H1 e => ⟨p, xs, rfl, ex_t e hx, hl, k H1 e⟩
end
end KD
set_option Elab.async false
set_option linter.all false
set_option maxRecDepth 100000
set_option maxHeartbeats 4000000
namespace KD
open PySem PySem.Spec PyProof.Rows L2 Evl
local macro_rules | `(tactic| walk_at "ev") => `(tactic| repeat' (first | exact ev_c | exact ev_var rfl | exact rv_I0 | refine' rv_I ?_ | refine' rv_eq ?_ | refine' rv_ne ?_ | refine' ev_op ?_ ?_ ?_ | exact ea_nil | refine' ea_cons ?_ ?_ | refine' et_test ?_ | refine' et_B ?_ | refine' et_not ?_ | refine' ev_notV ?_))

open PySem
/-! ### what draws: a dict of the cells, where one stands, what is left of a great one, the state -/
def bagK (l : Addr) (at_ : Nat) (rest state : Int) : List (Key × V) := [(.inr "cells", .ref l), (.inr "at", .int at_), (.inr "rest", .int rest), (.inr "state", .int state)]
def BagAt (H : Hp) (p : Addr) : Prop := ∃ (l : Addr) (ns : List Int) (at_ : Nat) (rest state : Int), H p = some (.dK (bagK l at_ rest state)) ∧ H l = some (.lst (ns.map V.int)) ∧ l ≠ p ∧ at_ ≤ ns.length ∧ ns.length ≤ 63 ∧ 0 ≤ rest ∧ 0 ≤ state ∧ state < 2147483647
theorem BagAt.keep {H H' : Hp} {p : Addr} (h : BagAt H p) (e : Ex H H') : BagAt H' p := by
  obtain ⟨l, ns, at_, rest, state, h1, h2, h3⟩ := h
  exact ⟨l, ns, at_, rest, state, e _ _ h1, e _ _ h2, h3⟩
/-- all but p stays -/
def ExB (p : Addr) (H H' : Hp) : Prop := ∀ b o, H b = some o → b ≠ p → H' b = some o
theorem ExB.of {p : Addr} {H H' : Hp} (e : Ex H H') : ExB p H H' := fun b o h _ => e b o h
theorem ExB.trans {p : Addr} {H H1 H2 : Hp} (a : ExB p H H1) (b : ExB p H1 H2) : ExB p H H2 := fun c o h n => b c o (a c o h n) n
def spBag (K : PySem.W.Frag) : Sp := fun vs H Q _ => ∃ (s : Addr) (ns : List Int), vs = [.ref s] ∧ SqL K H s (ns.map V.int) ∧ ns.length ≤ 63 ∧ ∀ p H', H p = none → Ex H H' → BagAt H' p → Q (.ref p) H'
def spDraw : Sp := fun vs H Q _ => ∃ (p : Addr) (m : Nat), vs = [.ref p, .int m] ∧ BagAt H p ∧ 0 < m ∧ m ≤ 1000 ∧ ∀ (d : Nat) H', d < m → ExB p H H' → BagAt H' p → Q (.int d) H'
theorem bag_ne : (Sum.inr "cells" : Key) ≠ .inr "at" ∧ (Sum.inr "cells" : Key) ≠ .inr "rest" ∧ (Sum.inr "cells" : Key) ≠ .inr "state" ∧ (Sum.inr "at" : Key) ≠ .inr "rest" ∧ (Sum.inr "at" : Key) ≠ .inr "state" ∧ (Sum.inr "rest" : Key) ≠ .inr "state" := by decide +kernel
section
variable {l : Addr} {at_ : Nat} {rest state : Int}
theorem bag_cells : valV (bagK l at_ rest state) (.inr "cells") = some (.ref l) := valV_pos rfl
theorem bag_at : valV (bagK l at_ rest state) (.inr "at") = some (.int at_) := (valV_neg bag_ne.1).trans (valV_pos rfl)
theorem bag_rest : valV (bagK l at_ rest state) (.inr "rest") = some (.int rest) := (valV_neg bag_ne.2.1).trans ((valV_neg bag_ne.2.2.2.1).trans (valV_pos rfl))
theorem bag_state : valV (bagK l at_ rest state) (.inr "state") = some (.int state) := (valV_neg bag_ne.2.2.1).trans ((valV_neg bag_ne.2.2.2.2.1).trans ((valV_neg bag_ne.2.2.2.2.2).trans (valV_pos rfl)))
theorem put_at {n : Nat} : putK (bagK l at_ rest state) (.inr "at") (.int n) = bagK l n rest state := by
  rw [put_some bag_at]
  simp only [bagK, List.map_cons, List.map_nil, if_pos, if_neg bag_ne.1, if_neg bag_ne.2.2.2.1.symm, if_neg bag_ne.2.2.2.2.1.symm]
theorem put_rest {r : Int} : putK (bagK l at_ rest state) (.inr "rest") (.int r) = bagK l at_ r state := by
  rw [put_some bag_rest]
  simp only [bagK, List.map_cons, List.map_nil, if_pos, if_neg bag_ne.2.1, if_neg bag_ne.2.2.2.1, if_neg bag_ne.2.2.2.2.2.symm]
theorem put_state {r : Int} : putK (bagK l at_ rest state) (.inr "state") (.int r) = bagK l at_ rest r := by
  rw [put_some bag_state]
  simp only [bagK, List.map_cons, List.map_nil, if_pos, if_neg bag_ne.2.2.1, if_neg bag_ne.2.2.2.2.1, if_neg bag_ne.2.2.2.2.2]
end
theorem cut_ints (ns : List Int) (lo hi : Option Int) : ∃ ms : List Int, cutV (ns.map V.int) lo hi = ms.map V.int ∧ ms.length ≤ ns.length := by
  refine ⟨(ns.drop (HT.sIx ns.length 0 lo)).take (HT.sIx ns.length ns.length hi - HT.sIx ns.length 0 lo), ?_, ?_⟩
  · unfold cutV
    rw [List.length_map, List.map_take, List.map_drop]
  · rw [List.length_take, List.length_drop]
    omega
section
variable {K : PySem.W.Frag} {σ : L2.St} {H H' : Hp} {ta tb te tx tv : TE} {D : Ends} {tz : TS} {v : V}
theorem el_listN {xs : List V} (h : EvL te σ H xs) : EvL (tCB (fun xs H Q => ∃ p ys, xs = [V.ref p] ∧ (SqL K H p ys ∨ SqT K H p ys) ∧ ∀ l, H l = none → Q (.ref l) (upd H l (.lst ys))) (tCons te tNil)) σ H xs := fun H1 e Q q =>
  h H1 e _ fun p H2 _ e2 h2 => ⟨p, xs, rfl, .inl (sq_of h2), fun l hl => q l _ (fresh_back e2 hl) (e2.trans (Ex.new hl)) upd_same⟩
theorem ev_int {i : Int} (h : Ev te σ H (.int i)) : Ev (tCB (fun xs H Q => (∃ i, xs = [V.int i] ∧ Q (.int i) H) ∨ ∃ k, xs = [V.bl k] ∧ Q (.int (if k then 1 else 0)) H) (tCons te tNil)) σ H (.int i) := fun H1 e Q q => h H1 e _ fun H2 e2 => .inl ⟨i, rfl, q H2 e2⟩
theorem ev_lenS {p : Addr} {xs : List V} (ha : Ev ta σ H (.ref p)) (h : SqL K H p xs) : Ev (tCB (fun xs H Q => ∃ p ys, xs = [V.ref p] ∧ (SqL K H p ys ∨ SqT K H p ys) ∧ Q (.int (ys.length : Nat)) H) (tCons ta tNil)) σ H (.int (xs.length : Nat)) := ev_len ha h
theorem ev_abs {i : Int} (h : Ev te σ H (.int i)) : Ev (tCB (fun xs H Q => ∃ i, xs = [V.int i] ∧ Q (.int (if i < 0 then -i else i)) H) (tCons te tNil)) σ H (.int (if i < 0 then -i else i)) := fun H1 e Q q => h H1 e _ fun H2 e2 => ⟨i, rfl, q H2 e2⟩
/-- a new dict of four, the first entry a new list -/
theorem s_retBag {t1 t2 t3 t4 v1 v2 v3 v4 : TE} {s1 s2 s3 s4 : Str} {xs : List V} {y z u : V} (k1 : Ev t1 σ H (.str s1)) (h1 : EvL v1 σ H xs) (k2 : Ev t2 σ H (.str s2)) (h2 : Ev v2 σ H y) (k3 : Ev t3 σ H (.str s3)) (h3 : Ev v3 σ H z) (k4 : Ev t4 σ H (.str s4)) (h4 : Ev v4 σ H u)
    (ne : (Sum.inr s1 : Key) ≠ .inr s2 ∧ (Sum.inr s1 : Key) ≠ .inr s3 ∧ (Sum.inr s1 : Key) ≠ .inr s4 ∧ (Sum.inr s2 : Key) ≠ .inr s3 ∧ (Sum.inr s2 : Key) ≠ .inr s4 ∧ (Sum.inr s3 : Key) ≠ .inr s4)
    (k : ∀ l p H1, H p = none → Ex H H1 → l ≠ p → H1 l = some (.lst xs) → H1 p = some (.dK [(.inr s1, .ref l), (.inr s2, y), (.inr s3, z), (.inr s4, u)]) → D.rt (.ref p) H1) : tRet (tDisp [(t1, v1), (t2, v2), (t3, v3), (t4, v4)]) D σ H := fun p hp => by
  have e0 : Ex H (upd H p (.dK [])) := Ex.new hp
  refine k1 _ e0 _ fun H2 e2 => h1 H2 (e0.trans e2) _ fun l H3 hl e3 x3 => k2 H3 ((e0.trans e2).trans e3) _ fun H4 e4 => h2 H4 (((e0.trans e2).trans e3).trans e4) _ fun H5 e5 => k3 H5 ((((e0.trans e2).trans e3).trans e4).trans e5) _ fun H6 e6 => h3 H6 (((((e0.trans e2).trans e3).trans e4).trans e5).trans e6) _ fun H7 e7 => k4 H7 ((((((e0.trans e2).trans e3).trans e4).trans e5).trans e6).trans e7) _ fun H8 e8 => h4 H8 (((((((e0.trans e2).trans e3).trans e4).trans e5).trans e6).trans e7).trans e8) _ fun H9 e9 => ?_
  have e29 : Ex (upd H p (.dK [])) H9 := ((((((e2.trans e3).trans e4).trans e5).trans e6).trans e7).trans e8).trans e9
  have lp : l ≠ p := fun q => by rw [q, e2 _ _ upd_same] at hl; cases hl
  refine ⟨e29 _ _ upd_same, [(.inr s1, .ref l), (.inr s2, y), (.inr s3, z), (.inr s4, u)], rfl, by show 4 ≤ 15; decide, ?_⟩
  have m4 : mergeK [] [(.inr s1, V.ref l), (.inr s2, y), (.inr s3, z), (.inr s4, u)] = [(.inr s1, .ref l), (.inr s2, y), (.inr s3, z), (.inr s4, u)] := by
    show putK (mergeK [] [(.inr s1, V.ref l), (.inr s2, y), (.inr s3, z)]) (.inr s4) u = _
    rw [merge3 ne.1 ne.2.1 ne.2.2.2.1]
    exact putK_new u ((valV_neg ne.2.2.1).trans ((valV_neg ne.2.2.2.2.1).trans ((valV_neg ne.2.2.2.2.2).trans rfl)))
  rw [m4]
  exact k l p _ hp (fun b o hb => by rw [upd_ne (ne_of_none hb hp)]; exact e29 _ _ (Ex.new hp _ _ hb)) lp (by rw [upd_ne lp]; exact ((((((e4.trans e5).trans e6).trans e7).trans e8).trans e9)) _ _ x3) upd_same
end
section
variable {P : Program} {w : World} {K : PySem.W.Frag} {mg : Str → Option Value} {base : Heap} {a : Ads}
theorem ok_bag (T : Txt w K mg a) : FnOk P w K mg base CX0 1 a.f__law_bag a.d__law_bag ["_law_script"] (spBag K) := by
  refine T.fn__law_bag.ok sc__law_bag (fun vs H Q E h => ?_) (fun cdv A outer s H vs Q E hr h => ?_)
  · obtain ⟨_, _, rfl, _⟩ := h
    rfl
  · obtain ⟨sc, ns, rfl, hs, hl, k⟩ := h
    refine ⟨_, (pss_cons (ps_set (i := 1) sc__law_bag.nd rfl (Or.inl rfl) pe_int)
    (pss_cons (ps_for PassesOwn.never rfl (pi_list (pe_slice sl_list (pv 0) po_none (po_some pe_int))) (pg_name (i := 2) sc__law_bag.nd rfl (Or.inl rfl)) (pss_one (ps_set (i := 1) sc__law_bag.nd rfl (Or.inl rfl) (pe_op op_mod (pe_callTy call_int1 (by rfl) T.b_int (by decide +kernel) (pa_cons (pe_op op_add (pe_op op_add (pe_op op_mul (pv 1) pe_int) (pe_op op_mod (pe_callB call_abs (by rfl) T.b_abs (by decide +kernel) (pa_cons (pv 2) pa_nil)) pe_int)) pe_int) pa_nil)) pe_int))))
    (pss_one (ps_ret (pe_disp (pps_cons pe_str (pe_callTy call_list_of (by rfl) T.b_list (by decide +kernel) (pa_cons (pe_slice sl_list (pv 0) po_none (po_some pe_int)) pa_nil)) (pps_cons pe_str pe_int (pps_cons pe_str pe_int (pps_cons pe_str (pv 1) pps_nil)))) (by rfl) (by rfl) (fun z => by cases z) (by decide)))))), ?_⟩
    obtain ⟨ms, e, hm⟩ := cut_ints ns none (some 63)
    refine q_asg (v := .int 7) ev_c fun H1 e1 => ?_
    refine q_forNL (K := K) (xs := ms.map V.int) (el_is (el_sl (K := K) (ev_var rfl) eo_none (eo_some ev_c) (ex_l e1 hs)) e) (fun p i σ' H' => ∃ (st : Int) (o2 : Option V), σ' = [some (.ref sc), some (.int st), o2] ∧ 0 ≤ st ∧ st < 2147483647 ∧ Ex H H' ∧ H' p = some (.lst (ms.map V.int))) (fun p H2 _ e2 h2 => ⟨7, _, rfl, by decide, by decide, e1.trans e2, h2⟩) (fun p i σ' H' _ q => by
      obtain ⟨_, _, _, _, _, _, h2⟩ := q
      exact sq_of h2) (fun p i x σ' H2 hx q => ?_) (fun p σ' H2 q => ?_)
    · obtain ⟨st, o2, rfl, s0, s1, e2, h2⟩ := q
      rw [List.getElem?_map] at hx
      obtain ⟨c, hc, rfl⟩ := Option.map_eq_some_iff.mp hx
      refine s_asg (v := .int ((st * 69621 + (if c < 0 then -c else c) % 2147483629 + 11) % 2147483647)) (ev_op (ev_int (ev_op (ev_op (ev_op (ev_var rfl) ev_c (rv_I (.inl ⟨by omega, by omega⟩))) (ev_op (ev_abs (ev_var rfl)) ev_c (rv_I (by decide))) rv_I0) ev_c rv_I0)) ev_c (rv_I (by decide))) fun H3 e3 => ⟨_, _, rfl, Int.emod_nonneg _ (by decide), Int.emod_lt_of_pos _ (by decide), e2.trans e3, e3 _ _ h2⟩
    · obtain ⟨st, o2, rfl, s0, s1, e2, h2⟩ := q
      refine s_retBag ev_c (el_listN (K := K) (el_is (el_sl (K := K) (ev_var rfl) eo_none (eo_some ev_c) (ex_l e2 hs)) e)) ev_c ev_c ev_c ev_c ev_c (ev_var rfl) bag_ne fun l p H3 hp e3 lp h3 hd => ?_
      exact k p H3 (fresh_back e2 hp) (e2.trans e3) ⟨l, ms, 0, 0, st, hd, h3, lp, Nat.zero_le _, by omega, Int.le_refl 0, s0, s1⟩
end
end KD
set_option Elab.async false
set_option linter.all false
set_option maxRecDepth 100000
set_option maxHeartbeats 4000000
namespace KD
open PySem PySem.Spec PyProof.Rows L2 Evl
local macro_rules | `(tactic| walk_at "ev") => `(tactic| repeat' (first | exact ev_c | exact ev_var rfl | exact rv_I0 | refine' rv_I ?_ | refine' rv_eq ?_ | refine' rv_ne ?_ | refine' ev_op ?_ ?_ ?_ | exact ea_nil | refine' ea_cons ?_ ?_ | refine' et_test ?_ | refine' et_B ?_ | refine' et_not ?_ | refine' ev_notV ?_))

open PySem
theorem q_dputS {σ : L2.St} {H : Hp} {ta tb tv : TE} {v : V} {D : Ends} {tz : TS} {d : Addr} {kvs : List (Key × V)} {s : Str} (hv : Ev tv σ H v) (h : Ev ta σ H (.ref d)) (hk : Ev tb σ H (.str s)) (hd : H d = some (.dK kvs)) (hl : kvs.length < 1000) (k : ∀ H1, Ex H H1 → tz D σ (upd H1 d (.dK (putK kvs (.inr s) v)))) : tSeq (sDPut ta tb tv) tz D σ H :=
  q_dput (D := { D with nx := tz D }) hv h hk hd hl k
section
variable {P : Program} {w : World} {K : PySem.W.Frag} {mg : Str → Option Value} {base : Heap} {a : Ads}
theorem ok_draw (T : Txt w K mg a) : FnOk P w K mg base CX0 1 a.f__law_draw a.d__law_draw ["_law_bag_here", "_law_limit"] spDraw := by
  refine T.fn__law_draw.ok sc__law_draw (fun vs H Q E h => ?_) (fun cdv A outer s H vs Q E hr h => ?_)
  · obtain ⟨_, _, rfl, _⟩ := h
    rfl
  · obtain ⟨p, m, rfl, ⟨l, ns, at0, rest0, st, hp, hl, lp, hat, hlen, hr0, hs0, hs1⟩, hm0, hm, k⟩ := h
    have hu := hu_of hr
    have hm1 : (0 : Int) < (m : Int) := by omega
    refine ⟨_, (pss_cons (ps_while PassesOwn.never (PW.pt (pw_and (pt_cmpR op_lt (pe_dget hu (pv 0) pe_str (fun _ _ => rfl)) pe_int (nomark _)) (pw_and1 (pt_cmpR op_lt (pe_dget hu (pv 0) pe_str (fun _ _ => rfl)) (pe_callB call_len_seq (by rfl) T.b_len PySem.boot_len (pa_cons (pe_dget hu (pv 0) pe_str (fun _ _ => rfl)) pa_nil)) (nomark _))))) (pss_cons (ps_set (i := 2) sc__law_draw.nd rfl (Or.inl rfl) (pe_callB call_abs (by rfl) T.b_abs (by decide +kernel) (pa_cons (pe_ix ix_list (pe_dget hu (pv 0) pe_str (fun _ _ => rfl)) (pe_dget hu (pv 0) pe_str (fun _ _ => rfl)) (fun _ _ => rfl)) pa_nil)))
    (pss_cons (ps_dput hu (pv 0) pe_str (pe_op op_add (pe_dget hu (pv 0) pe_str (fun _ _ => rfl)) pe_int) rfl)
    (pss_cons (ps_if (pt_cmpR op_lt (pv 2) (pe_op op_pow pe_int pe_int) (nomark _)) (pss_cons (ps_set (i := 3) sc__law_draw.nd rfl (Or.inl rfl) (pe_op op_mod (pe_callTy call_int1 (by rfl) T.b_int (by decide +kernel) (pa_cons (pe_op op_add (pe_op op_pow (pe_op op_add (pv 2) pe_int) pe_int) (pe_op op_mul (pe_dget hu (pv 0) pe_str (fun _ _ => rfl)) (pe_op op_add (pe_dget hu (pv 0) pe_str (fun _ _ => rfl)) pe_int))) pa_nil)) pe_int))
    (pss_one (ps_ret (pe_op op_mod (pv 3) (pv 1))))) pss_nil)
    (pss_one (ps_dput hu (pv 0) pe_str (pv 2) rfl))))))
    (pss_cons (ps_if (pt_cmpR op_ge (pe_dget hu (pv 0) pe_str (fun _ _ => rfl)) pe_int (nomark _)) (pss_cons (ps_set (i := 4) sc__law_draw.nd rfl (Or.inl rfl) (pe_op op_mod (pe_callTy call_int1 (by rfl) T.b_int (by decide +kernel) (pa_cons (pe_dget hu (pv 0) pe_str (fun _ _ => rfl)) pa_nil)) (pv 1)))
    (pss_cons (ps_dput hu (pv 0) pe_str (pe_op op_fdiv (pe_dget hu (pv 0) pe_str (fun _ _ => rfl)) (pv 1)) rfl)
    (pss_one (ps_ret (pv 4))))) pss_nil)
    (pss_cons (ps_dput hu (pv 0) pe_str (pe_op op_mod (pe_callTy call_int1 (by rfl) T.b_int (by decide +kernel) (pa_cons (pe_op op_add (pe_op op_mul (pe_dget hu (pv 0) pe_str (fun _ _ => rfl)) pe_int) pe_int) pa_nil)) pe_int) rfl)
    (pss_one (ps_ret (pe_op op_mod (pe_op op_mod (pe_callTy call_int1 (by rfl) T.b_int (by decide +kernel) (pa_cons (pe_op op_pow (pe_dget hu (pv 0) pe_str (fun _ _ => rfl)) pe_int) pa_nil)) pe_int) (pv 1))))))), ?_⟩
    have fin : ∀ (H1 : Hp) (x : Int) (b : Nat) (r s' : Int), ExB p H H1 → H1 p = some (.dK (bagK l b r s')) → b ≤ ns.length → 0 ≤ r → 0 ≤ s' → s' < 2147483647 → 0 ≤ x → x < m → Q (.int x) H1 := fun H1 x b r s' e h hb hr h0 h1 hx hx2 => by
      have ex : x = (x.toNat : Nat) := by omega
      rw [ex]
      exact k x.toNat H1 (by omega) e ⟨l, ns, b, r, s', h, e _ _ hl lp, lp, hb, hlen, hr, h0, h1⟩
    have h18 : (10 : Int) ^ (18 : Int).toNat = 1000000000000000000 := by decide
    let W : Nat → L2.St → Hp → Prop := fun mm σ' H' => ∃ (b : Nat) (r : Int) (o2 o3 o4 : Option V), mm = ns.length - b ∧ σ' = [some (.ref p), some (.int (m : Nat)), o2, o3, o4] ∧ ExB p H H' ∧ H' p = some (.dK (bagK l b r st)) ∧ b ≤ ns.length ∧ 0 ≤ r
    refine q_while W (ns.length - at0) ⟨at0, rest0, _, _, _, rfl, rfl, ExB.of (Ex.refl H), hp, hat, hr0⟩ fun mm σ' H' q => ?_
    obtain ⟨b, r, o2, o3, o4, rfl, rfl, e, hp', hb, hr'⟩ := q
    have hl' := e _ _ hl lp
    refine ⟨_, et_and (et_test (ev_op (ev_dget (ev_var rfl) ev_c hp' bag_rest) ev_c rv_I0)) (fun _ => et_test (ev_op (ev_dget (ev_var rfl) ev_c hp' bag_at) (ev_lenS (K := K) (ev_dget (ev_var rfl) ev_c hp' bag_cells) (sq_of hl')) rv_I0)), fun hb2 H1 e1 => ?_, fun _ H1 e1 => ?_⟩
    · have hlt : b < ns.length := by
        have := of_decide_eq_true (Bool.and_eq_true_iff.mp hb2).2
        rw [List.length_map] at this
        omega
      have hc : atI (ns.map V.int) ((b : Nat) : Int) = some (.int ns[b]) := atI_nat (by simp [hlt])
      generalize ns[b] = c at hc
      have hp1 := e1 _ _ hp'
      have hl1 := e1 _ _ hl'
      refine ⟨fun σ2 H2 => ∃ m', m' < ns.length - b ∧ W m' σ2 H2, fun σ2 H2 h => h, ?_⟩
      refine q_asg (v := .int (if c < 0 then -c else c)) (ev_abs (ev_op (ev_dget (ev_var rfl) ev_c hp1 bag_cells) (ev_dget (ev_var rfl) ev_c hp1 bag_at) (rv_ixL (K := K) (sq_of hl1) hc))) fun H2 e2 => ?_
      have c0 : 0 ≤ (if c < 0 then -c else c) := by split <;> omega
      generalize (if c < 0 then -c else c) = z at c0
      have hp2 := e2 _ _ hp1
      refine q_dputS (v := .int ((b + 1 : Nat) : Int)) (ev_is (ev_op (ev_dget (ev_var rfl) ev_c hp2 bag_at) ev_c rv_I0) (by rw [Int.natCast_add] <;> rfl)) (ev_var rfl) ev_c hp2 (by show 4 < 1000; decide) fun H3 e3 => ?_
      rw [put_at]
      have e4 : ExB p H (upd H3 p (.dK (bagK l (b + 1) r st))) := fun d o hd ne => by rw [upd_ne ne]; exact ((e1.trans e2).trans e3) _ _ (e _ _ hd ne)
      have hp4 : upd H3 p (.dK (bagK l (b + 1) r st)) p = some (.dK (bagK l (b + 1) r st)) := upd_same
      generalize upd H3 p (.dK (bagK l (b + 1) r st)) = H4 at e4 hp4
      refine q_when (et_test (ev_op (ev_var rfl) (ev_op ev_c ev_c (rv_I ⟨by decide, by decide, by decide⟩)) rv_I0)) (fun hz H5 e5 => ?_) (fun hz H5 e5 => ?_)
      · have hz := of_decide_eq_true hz
        rw [h18] at hz
        have hp5 := e5 _ _ hp4
        refine q_asg (v := .int (((z + 3) ^ (3 : Int).toNat + st * (((b + 1 : Nat) : Int) + 1)) % 2147483629)) (ev_op (ev_int (ev_op (ev_op (ev_op (ev_var rfl) ev_c rv_I0) ev_c (rv_I ⟨by decide, by decide, by omega⟩)) (ev_op (ev_dget (ev_var rfl) ev_c hp5 bag_state) (ev_op (ev_dget (ev_var rfl) ev_c hp5 bag_at) ev_c rv_I0) (rv_I (.inl ⟨by omega, by omega⟩))) rv_I0)) ev_c (rv_I (by decide))) fun H6 e6 => ?_
        refine s_ret (ev_op (ev_var rfl) (ev_var rfl) (rv_I (by omega))) fun H7 e7 => ?_
        exact fin H7 _ (b + 1) r st (e4.trans (ExB.of ((e5.trans e6).trans e7))) (e7 _ _ (e6 _ _ hp5)) (by omega) hr' hs0 hs1 (Int.emod_nonneg _ (by omega)) (Int.emod_lt_of_pos _ hm1)
      · have hp5 := e5 _ _ hp4
        refine q_dput (v := .int z) (ev_var rfl) (ev_var rfl) ev_c hp5 (by show 4 < 1000; decide) fun H6 e6 => ?_
        rw [put_rest]
        exact ⟨ns.length - (b + 1), by omega, b + 1, z, _, _, _, rfl, rfl, fun d o hd ne => by rw [upd_ne ne]; exact (e5.trans e6) _ _ (e4 _ _ hd ne), upd_same, by omega, c0⟩
    · have hp1 := e1 _ _ hp'
      refine q_when (et_test (ev_op (ev_dget (ev_var rfl) ev_c hp1 bag_rest) ev_c rv_I0)) (fun _ H2 e2 => ?_) (fun _ H2 e2 => ?_)
      · have hp2 := e2 _ _ hp1
        refine q_asg (v := .int (r % m)) (ev_op (ev_int (ev_dget (ev_var rfl) ev_c hp2 bag_rest)) (ev_var rfl) (rv_I (by omega))) fun H3 e3 => ?_
        have hp3 := e3 _ _ hp2
        refine q_dputS (v := .int (r / m)) (ev_op (ev_dget (ev_var rfl) ev_c hp3 bag_rest) (ev_var rfl) (rv_I ⟨by omega, by omega⟩)) (ev_var rfl) ev_c hp3 (by show 4 < 1000; decide) fun H4 e4 => ?_
        rw [put_rest]
        refine s_ret (v := .int (r % m)) (ev_var rfl) fun H5 e5 => ?_
        exact fin H5 _ b (r / m) st (e.trans (fun d o hd ne => e5 _ _ (by rw [upd_ne ne]; exact (((e1.trans e2).trans e3).trans e4) _ _ hd))) (e5 _ _ upd_same) hb (Int.ediv_nonneg hr' (by omega)) hs0 hs1 (Int.emod_nonneg _ (by omega)) (Int.emod_lt_of_pos _ hm1)
      · have hp2 := e2 _ _ hp1
        refine q_dputS (v := .int ((st * 48271 + 13) % 2147483647)) (ev_op (ev_int (ev_op (ev_op (ev_dget (ev_var rfl) ev_c hp2 bag_state) ev_c (rv_I (.inl ⟨by omega, by omega⟩))) ev_c rv_I0)) ev_c (rv_I (by decide))) (ev_var rfl) ev_c hp2 (by show 4 < 1000; decide) fun H3 e3 => ?_
        rw [put_state]
        have n0 : 0 ≤ (st * 48271 + 13) % 2147483647 := Int.emod_nonneg _ (by decide)
        have n1 : (st * 48271 + 13) % 2147483647 < 2147483647 := Int.emod_lt_of_pos _ (by decide)
        generalize (st * 48271 + 13) % 2147483647 = s2 at n0 n1
        refine s_ret (ev_op (ev_op (ev_int (ev_op (ev_dget (ev_var rfl) ev_c upd_same bag_state) ev_c (rv_I ⟨by decide, by decide, by omega⟩))) ev_c (rv_I (by decide))) (ev_var rfl) (rv_I (by omega))) fun H4 e4 => ?_
        exact fin H4 _ b r s2 (e.trans (fun d o hd ne => e4 _ _ (by rw [upd_ne ne]; exact ((e1.trans e2).trans e3) _ _ hd))) (e4 _ _ upd_same) hb hr' n0 n1 (Int.emod_nonneg _ (by omega)) (Int.emod_lt_of_pos _ hm1)
end
end KD
set_option Elab.async false
set_option linter.all false
set_option maxRecDepth 100000
set_option maxHeartbeats 4000000
namespace KD
open PySem PySem.Spec PyProof.Rows L2 Evl
local macro_rules | `(tactic| walk_at "ev") => `(tactic| repeat' (first | exact ev_c | exact ev_var rfl | exact rv_I0 | refine' rv_I ?_ | refine' rv_eq ?_ | refine' rv_ne ?_ | refine' ev_op ?_ ?_ ?_ | exact ea_nil | refine' ea_cons ?_ ?_ | refine' et_test ?_ | refine' et_B ?_ | refine' et_not ?_ | refine' ev_notV ?_))

open PySem
/-! ### _law_same of two things of one shape -/
def At (H : Hp) (k : Bool) (p : Addr) (xs : List V) : Prop := H p = some (if k = true then .tup xs else .lst xs)
def tyN (k : Bool) : String := if k = true then "tuple" else "list"
inductive SD (H : Hp) : Nat → V → V → Prop
  | int (n : Nat) (i : Int) : SD H n (.int i) (.int i)
  | str (n : Nat) (s : Str) : SD H n (.str s) (.str s)
  | bl (n : Nat) (b : Bool) : SD H n (.bl b) (.bl b)
  | seq {n : Nat} (k : Bool) {p q : Addr} {xs ys : List V} (hp : At H k p xs) (hq : At H k q ys) (l : xs.length = ys.length) (short : ys.length ≤ 1000) (all : ∀ (i : Nat) (x y : V), xs[i]? = some x → ys[i]? = some y → SD H n x y) : SD H (n + 1) (.ref p) (.ref q)
theorem SD.mono {H H' : Hp} {n : Nat} {x y : V} (h : SD H n x y) (e : Ex H H') : SD H' n x y := by
  induction h with
  | int n i => exact .int n i
  | str n s => exact .str n s
  | bl n b => exact .bl n b
  | seq k hp hq l short all ih => exact .seq k (e _ _ hp) (e _ _ hq) l short ih
def spSame (n : Nat) : Sp := fun vs H Q _ => ∃ x y : V, vs = [x, y] ∧ SD H n x y ∧ ∀ H', Ex H H' → Q (.bl true) H'
def spG : Nat → Sp
  | 0 => fun _ _ _ _ => False
  | n + 1 => spSame n
section
variable {K : PySem.W.Frag} {σ : L2.St} {H H' : Hp} {ta tb te : TE} {x y z v : V} {t : Value} {b k : Bool} {p : Addr} {xs : List V} {i : Nat}
theorem At.ty (h : At H k p xs) : TyX K H (.ref p) (.type (tyN k)) := by
  cases k with
  | true => exact .base (.tup h)
  | false => exact .base (.lst h)
theorem At.sq (h : At H k p xs) : SqL K H p xs ∨ SqT K H p xs := by
  cases k with
  | true => exact .inr (st_of h)
  | false => exact .inl (sq_of h)
theorem ev_isiT2 (ha : Ev ta σ H x) (ty : ∀ H', Ex H H' → TyX K H' x t) (e : PySem.W.kitAny K t [.type "tuple", .type "list"] = some b) : Ev (tCB (rIsiT K) (tCons ta (tCons (tTup (tCons (tC (.ty "tuple")) (tCons (tC (.ty "list")) tNil))) tNil))) σ H (.bl b) := fun H1 e1 Q q =>
  ha H1 e1 _ fun H2 e2 => ⟨by show 2 ≤ sizeLine; decide, fun tp ht => ⟨x, tp, [.ty "tuple", .ty "list"], t, [.type "tuple", .type "list"], b, rfl, upd_same, .cons (.ty _) (.cons (.ty _) .nil), ty _ ((e1.trans e2).trans (Ex.new ht)), e, q _ (e2.trans (Ex.new ht))⟩⟩
theorem ev_lenX (ha : Ev ta σ H (.ref p)) (h : At H k p xs) : Ev (tCB (fun xs H Q => ∃ p ys, xs = [V.ref p] ∧ (SqL K H p ys ∨ SqT K H p ys) ∧ Q (.int (ys.length : Nat)) H) (tCons ta tNil)) σ H (.int (xs.length : Nat)) := fun H1 e Q q =>
  ha H1 e _ fun H2 e2 => ⟨p, xs, rfl, At.sq (k := k) (e2 _ _ (e _ _ h)), q H2 e2⟩
theorem rv_ixX (h : At H k p xs) (hx : xs[i]? = some x) : RV (rIx K) (.ref p) (.int (i : Nat)) H x := fun H1 e Q q => by
  have h1 : At H1 k p xs := e _ _ h
  rcases h1.sq (K := K) with s | s
  · exact .inl ⟨p, xs, i, x, rfl, rfl, s, atI_nat hx, q H1 (Ex.refl H1)⟩
  · exact .inr (.inl ⟨p, xs, i, x, rfl, rfl, s, atI_nat hx, q H1 (Ex.refl H1)⟩)
theorem rv_isN {x : V} : RV (fun x y H Q => y = .non ∧ Q (.bl (decide (x = .non))) H) x .non H (.bl (decide (x = .non))) := fun H1 _ _ q => ⟨rfl, q H1 (Ex.refl H1)⟩
theorem kit_seq (k : Bool) : PySem.W.kitAny K (.type (tyN k)) [.type "tuple", .type "list"] = some true := by
  cases k with
  | true => exact kitAny_cons (b := true) (kit_ty (by decide +kernel)) (fun z => nomatch z) (fun _ => rfl)
  | false => exact kitAny_cons (b := false) (kit_ty (by decide +kernel)) (fun _ => kitAny_cons (b := true) (kit_ty (by decide +kernel)) (fun z => nomatch z) (fun _ => rfl)) (fun z => nomatch z)
theorem kit_tup (k : Bool) : PySem.W.kitOne K (.type (tyN k)) (.type "tuple") = some k := by
  cases k with
  | true => exact kit_ty (by decide +kernel)
  | false => exact kit_ty (by decide +kernel)
theorem kit_nseq {n : String} (h1 : kitB n "tuple" = some false) (h2 : kitB n "list" = some false) : PySem.W.kitAny K (.type n) [.type "tuple", .type "list"] = some false :=
  kitAny_cons (b := false) (kit_ty h1) (fun _ => kitAny_cons (b := false) (kit_ty h2) (fun _ => rfl) (fun z => nomatch z)) (fun z => nomatch z)
end
section
variable {P : Program} {w : World} {K : PySem.W.Frag} {mg : Str → Option Value} {base : Heap} {a : Ads}
theorem ok_sameG (T : Txt w K mg a) : ∀ n, FnOk P w K mg base CX0 n a.f__law_same a.d__law_same ["_law_actual", "_law_expected"] (spG n)
  | 0 => ⟨fun _ _ _ _ h => h.elim, fun _ _ _ _ _ _ _ _ _ _ _ _ _ h => h.elim⟩
  | n + 1 => by
    have G__law_same : FnOk P w K mg base CX0 n _ _ _ _ := ok_sameG T n
    refine T.fn__law_same.ok sc__law_same (fun vs H Q E h => ?_) (fun cdv A outer s H vs Q E hr h => ?_)
    · obtain ⟨_, _, rfl, _⟩ := h
      rfl
    · obtain ⟨x, y, rfl, sd, k⟩ := h
      have hrc : Room n _ := hr
      refine ⟨_, (pss_cons (ps_if (pt_val (pe_callB call_isiT (by rfl) T.b_isinstance PyProof.Rows.boot_isinstance (pa_cons (pv 1) (pa_cons (pe_tup (pa_cons (pe_bltn (v := .ty "tuple") (by rfl) T.b_tuple (by decide +kernel) rfl) (pa_cons (pe_bltn (v := .ty "list") (by rfl) T.b_list (by decide +kernel) rfl) pa_nil))) pa_nil)))) (pss_cons (ps_if (PW.pt (pw_or (pt_cmpR op_ne (pe_callB call_isi (by rfl) T.b_isinstance PyProof.Rows.boot_isinstance (pa_cons (pv 1) (pa_cons (pe_bltn (v := .ty "tuple") (by rfl) T.b_tuple (by decide +kernel) rfl) pa_nil))) (pe_callB call_isi (by rfl) T.b_isinstance PyProof.Rows.boot_isinstance (pa_cons (pv 0) (pa_cons (pe_bltn (v := .ty "tuple") (by rfl) T.b_tuple (by decide +kernel) rfl) pa_nil))) (nomark _)) (pw_or1 (pt_not (pt_val (pe_callB call_isiT (by rfl) T.b_isinstance PyProof.Rows.boot_isinstance (pa_cons (pv 0) (pa_cons (pe_tup (pa_cons (pe_bltn (v := .ty "tuple") (by rfl) T.b_tuple (by decide +kernel) rfl) (pa_cons (pe_bltn (v := .ty "list") (by rfl) T.b_list (by decide +kernel) rfl) pa_nil))) pa_nil)))))))) (pss_one (ps_ret pe_bl)) pss_nil)
    (pss_cons (ps_if (pt_cmpR op_ne (pe_callB call_len_seq (by rfl) T.b_len PySem.boot_len (pa_cons (pv 0) pa_nil)) (pe_callB call_len_seq (by rfl) T.b_len PySem.boot_len (pa_cons (pv 1) pa_nil)) (nomark _)) (pss_one (ps_ret pe_bl)) pss_nil)
    (pss_cons (ps_for PassesOwn.never rfl (pi_range1 rfl T.b_range (pa_cons (pe_callB call_len_seq (by rfl) T.b_len PySem.boot_len (pa_cons (pv 1) pa_nil)) pa_nil)) (pg_name (i := 2) sc__law_same.nd rfl (Or.inl rfl)) (pss_one (ps_if (pt_not (pt_val (pe_call G__law_same hrc rfl T.mg__law_same T.fn__law_same.kp (bd__law_same T) .nil pass0 (pa_cons (pe_ix ix_seq (pv 0) (pv 2) (fun _ _ => rfl)) (pa_cons (pe_ix ix_seq (pv 1) (pv 2) (fun _ _ => rfl)) pa_nil))))) (pss_one (ps_ret pe_bl)) pss_nil)))
    (pss_one (ps_ret pe_bl))))) pss_nil)
    (pss_cons (ps_if (pt_cmpR op_isN (pv 1) pe_non (nomark _)) (pss_one (ps_ret (pe_cmpR op_isN (pv 0) pe_non (nomark _)))) pss_nil)
    (pss_cons (ps_if (pt_val (pe_callB call_isi (by rfl) T.b_isinstance PyProof.Rows.boot_isinstance (pa_cons (pv 1) (pa_cons (pe_bltn (v := .ty "bool") (by rfl) T.b_bool (by decide +kernel) rfl) pa_nil)))) (pss_one (ps_ret (pe_and (pe_callB call_isi (by rfl) T.b_isinstance PyProof.Rows.boot_isinstance (pa_cons (pv 0) (pa_cons (pe_bltn (v := .ty "bool") (by rfl) T.b_bool (by decide +kernel) rfl) pa_nil))) (pe_one (pe_cmpR op_eq (pv 0) (pv 1) (nomark _)))))) pss_nil)
    (pss_cons (ps_if (pt_val (pe_callB call_isi (by rfl) T.b_isinstance PyProof.Rows.boot_isinstance (pa_cons (pv 1) (pa_cons (pe_bltn (v := .ty "int") (by rfl) T.b_int (by decide +kernel) rfl) pa_nil)))) (pss_one (ps_ret (pe_and (pe_callB call_isi (by rfl) T.b_isinstance PyProof.Rows.boot_isinstance (pa_cons (pv 0) (pa_cons (pe_bltn (v := .ty "int") (by rfl) T.b_int (by decide +kernel) rfl) pa_nil))) (pe_and (pe_not (pe_callB call_isi (by rfl) T.b_isinstance PyProof.Rows.boot_isinstance (pa_cons (pv 0) (pa_cons (pe_bltn (v := .ty "bool") (by rfl) T.b_bool (by decide +kernel) rfl) pa_nil)))) (pe_one (pe_cmpR op_eq (pv 0) (pv 1) (nomark _))))))) pss_nil)
    (pss_one (ps_ret (pe_and (pe_callB call_isi (by rfl) T.b_isinstance PyProof.Rows.boot_isinstance (pa_cons (pv 0) (pa_cons (pe_bltn (v := .ty "str") (by rfl) T.b_str (by decide +kernel) rfl) pa_nil))) (pe_one (pe_cmpR op_eq (pv 0) (pv 1) (nomark _)))))))))), ?_⟩
      cases sd with
      | int _ i =>
        refine q_when (b := false) (et_B (ev_isiT2 (K := K) (ev_var rfl) (fun _ _ => .base (.int _)) (kit_nseq (by decide +kernel) (by decide +kernel)))) (fun z => nomatch z) fun _ H1 e1 => ?_
        refine q_when (b := false) (et_is (et_test (ev_op (ev_var rfl) ev_c rv_isN)) rfl) (fun z => nomatch z) fun _ H2 e2 => ?_
        refine q_when (b := false) (et_B (ev_isi (ea_cons (ev_var rfl) (ea_cons ev_c ea_nil)) (.ty _) (fun _ _ => .base (.int _)) (kit_ty (by decide +kernel)))) (fun z => nomatch z) fun _ H3 e3 => ?_
        refine q_when (b := true) (et_B (ev_isi (ea_cons (ev_var rfl) (ea_cons ev_c ea_nil)) (.ty _) (fun _ _ => .base (.int _)) (kit_ty (by decide +kernel)))) (fun _ H4 e4 => ?_) (fun z => nomatch z)
        exact s_ret (v := .bl true) (ev_is (ev_andV (a := true) (ev_isi (ea_cons (ev_var rfl) (ea_cons ev_c ea_nil)) (.ty _) (fun _ _ => .base (.int _)) (kit_ty (by decide +kernel))) fun _ => ev_andV (a := true) (ev_is (ev_notV (a := false) (ev_isi (ea_cons (ev_var rfl) (ea_cons ev_c ea_nil)) (.ty _) (fun _ _ => .base (.int _)) (kit_ty (by decide +kernel)))) rfl) fun _ => ev_op (ev_var rfl) (ev_var rfl) (rv_eq rfl)) (by simp)) fun H5 e5 => k H5 ((((e1.trans e2).trans e3).trans e4).trans e5)
      | bl _ bb =>
        refine q_when (b := false) (et_B (ev_isiT2 (K := K) (ev_var rfl) (fun _ _ => .base (.bl _)) (kit_nseq (by decide +kernel) (by decide +kernel)))) (fun z => nomatch z) fun _ H1 e1 => ?_
        refine q_when (b := false) (et_is (et_test (ev_op (ev_var rfl) ev_c rv_isN)) rfl) (fun z => nomatch z) fun _ H2 e2 => ?_
        refine q_when (b := true) (et_B (ev_isi (ea_cons (ev_var rfl) (ea_cons ev_c ea_nil)) (.ty _) (fun _ _ => .base (.bl _)) (kit_ty (by decide +kernel)))) (fun _ H3 e3 => ?_) (fun z => nomatch z)
        exact s_ret (v := .bl true) (ev_is (ev_andV (a := true) (ev_isi (ea_cons (ev_var rfl) (ea_cons ev_c ea_nil)) (.ty _) (fun _ _ => .base (.bl _)) (kit_ty (by decide +kernel))) fun _ => ev_op (ev_var rfl) (ev_var rfl) (rv_eq rfl)) (by simp)) fun H4 e4 => k H4 (((e1.trans e2).trans e3).trans e4)
      | str _ st =>
        refine q_when (b := false) (et_B (ev_isiT2 (K := K) (ev_var rfl) (fun _ _ => .base (.str _)) (kit_nseq (by decide +kernel) (by decide +kernel)))) (fun z => nomatch z) fun _ H1 e1 => ?_
        refine q_when (b := false) (et_is (et_test (ev_op (ev_var rfl) ev_c rv_isN)) rfl) (fun z => nomatch z) fun _ H2 e2 => ?_
        refine q_when (b := false) (et_B (ev_isi (ea_cons (ev_var rfl) (ea_cons ev_c ea_nil)) (.ty _) (fun _ _ => .base (.str _)) (kit_ty (by decide +kernel)))) (fun z => nomatch z) fun _ H3 e3 => ?_
        refine q_when (b := false) (et_B (ev_isi (ea_cons (ev_var rfl) (ea_cons ev_c ea_nil)) (.ty _) (fun _ _ => .base (.str _)) (kit_ty (by decide +kernel)))) (fun z => nomatch z) fun _ H4 e4 => ?_
        exact s_ret (v := .bl true) (ev_is (ev_andV (a := true) (ev_isi (ea_cons (ev_var rfl) (ea_cons ev_c ea_nil)) (.ty _) (fun _ _ => .base (.str _)) (kit_ty (by decide +kernel))) fun _ => ev_op (ev_var rfl) (ev_var rfl) (rv_eq rfl)) (by simp)) fun H5 e5 => k H5 ((((e1.trans e2).trans e3).trans e4).trans e5)
      | @seq m kd p q xs ys hp hq l short all =>
        refine q_when (b := true) (et_B (ev_isiT2 (K := K) (ev_var rfl) (fun H' e' => At.ty (k := kd) (e' _ _ hq)) (kit_seq kd))) (fun _ H1 e1 => ?_) (fun z => nomatch z)
        have hp1 : At H1 kd p xs := e1 _ _ hp
        have hq1 : At H1 kd q ys := e1 _ _ hq
        refine q_when (b := false) (et_is (et_or (et_test (ev_op (ev_isi (ea_cons (ev_var rfl) (ea_cons ev_c ea_nil)) (.ty _) (fun H' e' => At.ty (k := kd) (e' _ _ hq1)) (kit_tup kd)) (ev_isi (ea_cons (ev_var rfl) (ea_cons ev_c ea_nil)) (.ty _) (fun H' e' => At.ty (k := kd) (e' _ _ hp1)) (kit_tup kd)) (rv_ne rfl))) fun _ => et_not (a := true) (et_B (ev_isiT2 (K := K) (ev_var rfl) (fun H' e' => At.ty (k := kd) (e' _ _ hp1)) (kit_seq kd)))) (by simp)) (fun z => nomatch z) fun _ H2 e2 => ?_
        have hp2 : At H2 kd p xs := e2 _ _ hp1
        have hq2 : At H2 kd q ys := e2 _ _ hq1
        refine q_when (b := false) (et_is (et_test (ev_op (ev_lenX (K := K) (ev_var rfl) hp2) (ev_lenX (K := K) (ev_var rfl) hq2) (rv_ne rfl))) (by rw [l]; simp)) (fun z => nomatch z) fun _ H3 e3 => ?_
        have e03 := (e1.trans e2).trans e3
        have hq3 : At H3 kd q ys := e3 _ _ hq2
        refine q_forR1 (n := (ys.length : Nat)) (ea_cons (ev_lenX (K := K) (ev_var rfl) hq3) ea_nil) (by omega) (fun j σ' H' => ∃ o2, σ' = [some (.ref p), some (.ref q), o2] ∧ Ex H H') (fun H4 e4 => ⟨_, rfl, e03.trans e4⟩) (fun j σ' H4 hj inv => ?_) (fun σ' H4 inv => ?_)
        · obtain ⟨o2, rfl, e4⟩ := inv
          have hj2 : j < ys.length := by omega
          have hj1 : j < xs.length := by omega
          have hp4 : At H4 kd p xs := e4 _ _ hp
          have hq4 : At H4 kd q ys := e4 _ _ hq
          refine s_when (b := false) (et_not (a := true) (et_B (ev_call (vs := [xs[j], ys[j]]) (ea_cons (ev_op (ev_var rfl) (ev_var rfl) (rv_ixX (K := K) hp4 (by simp [hj1]))) (ea_cons (ev_op (ev_var rfl) (ev_var rfl) (rv_ixX (K := K) hq4 (by simp [hj2]))) ea_nil)) fun H5 e5 Q5 q5 E5 => ⟨xs[j], ys[j], rfl, (all j _ _ (by simp [hj1]) (by simp [hj2])).mono (e4.trans e5), q5⟩))) (fun z => nomatch z) fun _ H5 e5 => ⟨_, rfl, e4.trans e5⟩
        · obtain ⟨o2, rfl, e4⟩ := inv
          exact s_ret (v := .bl true) ev_c fun H5 e5 => k H5 (e4.trans e5)
end
end KD
set_option Elab.async false
set_option linter.all false
set_option maxRecDepth 100000
set_option maxHeartbeats 4000000
namespace KD
open PySem PySem.Spec PyProof.Rows L2 Evl
local macro_rules | `(tactic| walk_at "ev") => `(tactic| repeat' (first | exact ev_c | exact ev_var rfl | exact rv_I0 | refine' rv_I ?_ | refine' rv_eq ?_ | refine' rv_ne ?_ | refine' ev_op ?_ ?_ ?_ | exact ea_nil | refine' ea_cons ?_ ?_ | refine' et_test ?_ | refine' et_B ?_ | refine' et_not ?_ | refine' ev_notV ?_))

open PySem
/-! ### BadMode is raised -/
def spBadI (a : Ads) : Sp := fun vs H Q _ => ∃ (e : Addr) (v : V), vs = [.ref e, v] ∧ H e = some (exo e a.x_BadMode none) ∧ ∀ dx, H dx = none → dx ≠ e → Q .non (upd (upd H dx (exd dx [(("part" : Str), v)])) e (exo e a.x_BadMode (some dx)))
/-- an error's dict, new: its part is s -/
def Told (a : Ads) (E : XK) (H : Hp) (s : Str) : Prop := ∀ d H', H d = none → Ex H H' → H' d = some (.xd [(("part" : Str), .str s)]) → E (.ref a.x_BadMode) (some d) H'
theorem Told.back {a : Ads} {E : XK} {H H1 : Hp} {s : Str} (h : Told a E H s) (e : Ex H H1) : Told a E H1 s := fun d H' hd e' h' => h d H' (fresh_back e hd) (e.trans e') h'
/-- what raise BadMode(s) asks, and what it leaves -/
theorem raise_told {a : Ads} {E : XK} {H : Hp} {s : Str} (h : Told a E H s) : ∀ e, H e = none → spBadI a (.ref e :: ([.str s] ++ [])) (upd H e (exo e a.x_BadMode none)) (fun v H2 => v = .non ∧ ∃ (d : Addr) (fs : List (Str × V)), H2 e = some (exo e a.x_BadMode (some d)) ∧ H2 d = some (exd d fs) ∧ H d = none ∧ E (.ref a.x_BadMode) (some d) (upd (del H2 e) d (.xd fs))) (fun _ _ _ => False) := fun e he =>
  ⟨e, .str s, rfl, upd_same, fun dx hdx ne => by
    have hd : H dx = none := by rw [upd_ne ne] at hdx; exact hdx
    refine ⟨rfl, dx, [(("part" : Str), .str s)], upd_same, by rw [upd_ne ne, upd_same], hd, h dx _ hd (fun b o hb => ?_) upd_same⟩
    have be := ne_of_none hb he
    have bd := ne_of_none hb hd
    rw [upd_ne bd, del_ne be, upd_ne be, upd_ne bd, upd_ne be]
    exact hb⟩
section
variable {P : Program} {w : World} {K : PySem.W.Frag} {mg : Str → Option Value} {base : Heap} {a : Ads}
theorem ok_BadMode_init (T : Txt w K mg a) : FnOk P w K mg base CX0 1 a.f_BadModeD_initD a.d_BadModeD_initD ["self", "part"] (spBadI a) := by
  refine T.fn_BadModeD_initD.ok sc_BadModeD_initD (fun vs H Q E h => ?_) (fun cdv A outer s H vs Q E hr h => ?_)
  · obtain ⟨_, _, rfl, _⟩ := h
    rfl
  · obtain ⟨e, v, rfl, he, k⟩ := h
    refine ⟨_, (pss_one (ps_ost (pv 0) (pv 1))), ?_⟩
    exact ⟨v, rfl, .ref e, rfl, e, a.x_BadMode, rfl, T.ox_BadMode, T.np_BadMode, .inl ⟨he, fun dx hdx ne => k dx hdx ne⟩⟩
end
end KD
set_option Elab.async false
set_option linter.all false
set_option maxRecDepth 100000
set_option maxHeartbeats 4000000
namespace KD
open PySem PySem.Spec PyProof.Rows L2 Evl
local macro_rules | `(tactic| walk_at "ev") => `(tactic| repeat' (first | exact ev_c | exact ev_var rfl | exact rv_I0 | refine' rv_I ?_ | refine' rv_eq ?_ | refine' rv_ne ?_ | refine' ev_op ?_ ?_ ?_ | exact ea_nil | refine' ea_cons ?_ ?_ | refine' et_test ?_ | refine' et_B ?_ | refine' et_not ?_ | refine' ev_notV ?_))

open PySem
theorem FnOk.either {P : Program} {w : World} {K : PySem.W.Frag} {mg : Str → Option Value} {base : Heap} {CX : CXT} {k : Nat} {f : Addr} {fd : FuncData} {ps : List Str} {s1 s2 : Sp} (F1 : FnOk P w K mg base CX k f fd ps s1) (F2 : FnOk P w K mg base CX k f fd ps s2) : FnOk P w K mg base CX k f fd ps (fun vs H Q E => s1 vs H Q E ∨ s2 vs H Q E) :=
  ⟨fun vs H Q E h => h.elim (F1.len vs H Q E) (F2.len vs H Q E), fun A outer s H args us vs Q E hr e0 hb r h => h.elim (F1.run A outer s H args us vs Q E hr e0 hb r) (F2.run A outer s H args us vs Q E hr e0 hb r)⟩
/-- a value of this type, now and later -/
def TyE (K : PySem.W.Frag) (H : Hp) (x : V) (t : String) : Prop := ∀ H', Ex H H' → TyX K H' x (.type t)
/-- no whole number from 0 to m -/
def BadW (K : PySem.W.Frag) (H : Hp) (x : V) (m : Int) : Prop := (∃ (t : String) (b1 b2 : Bool), TyE K H x t ∧ kitB t "int" = some b1 ∧ kitB t "bool" = some b2 ∧ (b1 && !b2) = false) ∨ ∃ i : Int, x = .int i ∧ (i < 0 ∨ m < i)
theorem BadW.mono {K : PySem.W.Frag} {H H' : Hp} {x : V} {m : Int} (h : BadW K H x m) (e : Ex H H') : BadW K H' x m := by
  rcases h with ⟨t, b1, b2, ty, h1, h2, h3⟩ | h
  · exact .inl ⟨t, b1, b2, fun H1 e1 => ty H1 (e.trans e1), h1, h2, h3⟩
  · exact .inr h
def spW1 (K : PySem.W.Frag) : Sp := fun vs H Q _ => ∃ (x : V) (t : String) (b1 b2 : Bool), vs = [x] ∧ TyE K H x t ∧ kitB t "int" = some b1 ∧ kitB t "bool" = some b2 ∧ ∀ H', Ex H H' → Q (.bl (b1 && !b2)) H'
def spW2 (K : PySem.W.Frag) : Sp := fun vs H Q _ => ∃ (x : V) (m : Int), vs = [x, .int m] ∧ BadW K H x m ∧ ∀ H', Ex H H' → Q (.bl false) H'
def EvM (a : Ads) (te : TE) (σ : L2.St) (H : Hp) (n : Nat) : Prop := ∀ H1, Ex H H1 → ∀ Q : VK, (∀ p H2, H1 p = none → Ex H1 H2 → ModeAt a H2 p n → Q (.ref p) H2) → te σ H1 Q
theorem em_mode {a : Ads} {te : TE} {σ : L2.St} {H : Hp} {n : Nat} {E : XK} (h : Ev te σ H (.int n)) (hn : n < 512) : EvM a (tMake a.f_Mode (spMode a) [] E (tCons te tNil)) σ H n := fun H1 e1 Q q =>
  h H1 e1 _ fun H2 e2 x dx hx hdx hne => ⟨x, dx, n, rfl, hn, upd_same, fun H3 k3 h3 => ⟨rfl, q x H3 (fresh_back e2 hx) (e2.trans fun b o hb => by
    have bx := ne_of_none hb hx
    have bdx := ne_of_none hb hdx
    exact k3 b o (by rw [upd_ne bx, upd_ne bdx]; exact hb) bx) ⟨dx, h3⟩⟩⟩
section
variable {P : Program} {w : World} {K : PySem.W.Frag} {mg : Str → Option Value} {base : Heap} {a : Ads}
theorem ok_is_whole1 (T : Txt w K mg a) : FnOk P w K mg base CX0 1 a.f_is_whole a.d_is_whole ["value"] (spW1 K) := by
  refine T.fn_is_whole.ok sc_is_whole (fun vs H Q E h => ?_) (fun cdv A outer s H vs Q E hr h => ?_)
  · obtain ⟨_, _, _, _, rfl, _⟩ := h
    rfl
  · obtain ⟨x, t, b1, b2, rfl, ty, h1, h2, k⟩ := h
    refine ⟨_, (pss_one (ps_ret (pe_and (pe_callB call_isi (by rfl) T.b_isinstance PyProof.Rows.boot_isinstance (pa_cons (pv 0) (pa_cons (pe_bltn (v := .ty "int") (by rfl) T.b_int (by decide +kernel) rfl) pa_nil))) (pe_one (pe_not (pe_callB call_isi (by rfl) T.b_isinstance PyProof.Rows.boot_isinstance (pa_cons (pv 0) (pa_cons (pe_bltn (v := .ty "bool") (by rfl) T.b_bool (by decide +kernel) rfl) pa_nil)))))))), ?_⟩
    exact s_ret (v := .bl (b1 && !b2)) (ev_andV (a := b1) (ev_isi (ea_cons (ev_var rfl) (ea_cons ev_c ea_nil)) (.ty _) ty (kit_ty h1)) fun _ => ev_notV (a := b2) (ev_isi (ea_cons (ev_var rfl) (ea_cons ev_c ea_nil)) (.ty _) ty (kit_ty h2))) fun H1 e1 => k H1 e1
theorem ok_is_whole2 (T : Txt w K mg a) : FnOk P w K mg base CX0 3 a.f_is_whole_to a.d_is_whole_to ["value", "most"] (spW2 K) := by
  have G_is_whole : FnOk P w K mg base CX0 1 _ _ _ _ := ok_is_whole1 T
  refine T.fn_is_whole_to.ok sc_is_whole_to (fun vs H Q E h => ?_) (fun cdv A outer s H vs Q E hr h => ?_)
  · obtain ⟨_, _, rfl, _⟩ := h
    rfl
  · obtain ⟨x, m, rfl, bad, k⟩ := h
    have hrc : Room 1 _ := hr.mono (by decide)
    refine ⟨_, (pss_one (ps_ret (pe_and (pe_call G_is_whole hrc rfl T.mg_is_whole T.fn_is_whole.kp (bd_is_whole T) .nil pass0 (pa_cons (pv 0) pa_nil)) (pe_one (pe_chain op_le op_le pe_int (pv 0) (pv 1)))))), ?_⟩
    rcases bad with ⟨t, b1, b2, ty, h1, h2, h3⟩ | ⟨i, rfl, hi⟩
    · exact s_ret (v := .bl false) (ev_is (ev_andV (a := false) (b := true) (ev_is (ev_call (vs := [x]) (ea_cons (ev_var rfl) ea_nil) fun H1 e Q q E => ⟨x, t, b1, b2, rfl, fun H2 e2 => ty H2 (e.trans e2), h1, h2, q⟩) (by rw [h3])) (fun z => nomatch z)) rfl) fun H1 e1 => k H1 e1
    · refine s_ret (v := .bl false) (ev_is (ev_andV (a := true) (ev_call (vs := [.int i]) (ea_cons (ev_var rfl) ea_nil) fun H1 e Q q E => ⟨.int i, "int", true, false, rfl, fun _ _ => .base (.int _), by decide +kernel, by decide +kernel, q⟩) fun _ => ev_chain ev_c (ev_var rfl) rv_I0 fun _ => ⟨ev_var rfl, rv_I0⟩) ?_) fun H1 e1 => k H1 e1
      by_cases h0 : 0 ≤ i
      · rw [decide_eq_false (show ¬ i ≤ m by omega)]
        simp
      · rw [decide_eq_false h0]
        rfl
end
end KD
set_option Elab.async false
set_option linter.all false
set_option maxRecDepth 100000
set_option maxHeartbeats 4000000
namespace KD
open PySem PySem.Spec PyProof.Rows L2 Evl
local macro_rules | `(tactic| walk_at "ev") => `(tactic| repeat' (first | exact ev_c | exact ev_var rfl | exact rv_I0 | refine' rv_I ?_ | refine' rv_eq ?_ | refine' rv_ne ?_ | refine' ev_op ?_ ?_ ?_ | exact ea_nil | refine' ea_cons ?_ ?_ | refine' et_test ?_ | refine' et_B ?_ | refine' et_not ?_ | refine' ev_notV ?_))

open PySem
/-! ### C.m(..), m a staticmethod; o.m(k = v) of an own method -/
def tSMeth (C : Addr) (sp : Sp) (E : XK) (ta : TE) (t : TA) : TE := fun σ H Q => ta σ H fun x H1 => x = .ref C ∧ t σ H1 fun vs H2 => sp vs H2 Q E
def tSMethK (C : Addr) (sp : Sp) (gV : List V → List V → List V) (E : XK) (ta : TE) (tk : TA) : TE := fun σ H Q => ta σ H fun x H1 => x = .ref C ∧ tk σ H1 fun zs H2 => sp (gV [] zs) H2 Q E
section
variable {X : Cx} {CX : CXT} {k : Nat} {C p g : Addr} {sp : Sp} {E : XK} {o e : Expr} {es : List Expr} {m : Str} {pos apos : Pos} {ta : TE} {t tk : TA} {fd : FuncData} {ps ks : List Str} {kws : List Keyword} {gg : List Value → List Value → List Value} {gV : List V → List V → List V}
theorem getsm_ok {pl : Sem Bool} {pins : List (Addr × Obj)} {σ : L2.St} {H : Hp} {s : Shared} {A : Around} {E : Value → Shared → Prop} {Q : Value × List Value → Shared → Prop} (I : Inv X pins σ H s) (r : ClX.CRead X.K C (.type "type")) (c : SMet X.K C m p g)
    (h : ∀ s', Inv X pins σ H s' → Q (.ref g, []) s') : wpAny (model X.prog X.w) A (getMethod (.ref C) m pl) Q E s := by
  obtain ⟨rest, hp⟩ := c.rc
  refine PySem.W.method_cls I.kIn r.ga (PySem.W.cls_bind I.kIn r.rd c.at_ ?_)
  exact wpAny_call (PySem.W.sm_get (s := { s with toks := s.toks + 1 }) I.kIn hp (PySem.W.handed_on rfl (h _ (I.tok _))))
theorem pe_smeth {pl : Sem Bool} (he : PE X o ta) (r : ClX.CRead X.K C (.type "type")) (c : SMet X.K C m p g) (F : FnR X.prog X.w X.K X.mg X.base CX k g sp) (hr : Room k X.A) (hx : Passes CX X E) (ha : PA X (e :: es) t)
    (hst : starEach (e :: es) X.env = (false, eval e X.env) :: starEach es X.env := by rfl) (hpl : (backTo pos (starEach es X.env)).any (·.1) = false := by rfl)
    (ht : eval (.Call (.Attribute o m apos) (e :: es) [] pos) X.env = (do
      let ov ← eval o X.env
      standAt apos.atName
      let (f, first) ← holding [ov] (getMethod ov m pl)
      callWith pos f first (backTo pos (starEach (e :: es) X.env)) (backToKw pos (keywordEach [] X.env))) := by rfl) :
    PE X (.Call (.Attribute o m apos) (e :: es) [] pos) (tSMeth C sp E ta t) := by
  refine ⟨fun pins s σ H Q I h => ?_⟩
  refine PySem.W.methodCall_KW (pl := pl) (thn (he.run pins s σ H _ I h) fun u s1 ⟨x, H1, I1, rx, ex, q⟩ => ?_) ht
  subst ex
  obtain rfl : u = Value.ref C := rx
  refine getsm_ok I1 r c fun s2 I2 => ?_
  refine PySem.W.callWith_K (first := []) (h₀ := X.base) I2.ok.mod.kin c.kp (thn (ha.run pos pins s2 σ H1 _ I2 q) fun us s3 ⟨vs, H2, I3, rv, q2⟩ => ⟨I3.kIn, ?_⟩) hst hpl
  exact wpAny_call (run_fnR (us := us) (vs := vs) F hr hx I3 rv q2)
theorem pe_smethK {pl : Sem Bool} (he : PE X o ta) (r : ClX.CRead X.K C (.type "type")) (c : SMet X.K C m p g) (F : FnOk X.prog X.w X.K X.mg X.base CX k g fd ps sp) (hr : Room k X.A) (hb : KBinds X.K fd ps ks gg gV) (hx : Passes CX X E) (hkw : PK X kws tk)
    (hall : (backToKw pos (keywordEach kws X.env)).all (·.1.isSome) = true := by rfl) (hks : (backToKw pos (keywordEach kws X.env)).filterMap (·.1) = ks := by rfl)
    (hpl : ((backTo pos (starEach [] X.env)).any (·.1) || (backToKw pos (keywordEach kws X.env)).any (·.1.isNone)) = false := by rfl)
    (ht : eval (.Call (.Attribute o m apos) [] kws pos) X.env = (do
      let ov ← eval o X.env
      standAt apos.atName
      let (f, first) ← holding [ov] (getMethod ov m pl)
      callWith pos f first (backTo pos (starEach [] X.env)) (backToKw pos (keywordEach kws X.env))) := by rfl) :
    PE X (.Call (.Attribute o m apos) [] kws pos) (tSMethK C sp gV E ta tk) := by
  refine ⟨fun pins s σ H Q I h => ?_⟩
  refine PySem.W.methodCall_KW (pl := pl) (thn (he.run pins s σ H _ I h) fun u s1 ⟨x, H1, I1, rx, ex, q⟩ => ?_) ht
  subst ex
  obtain rfl : u = Value.ref C := rx
  refine getsm_ok I1 r c fun s2 I2 => ?_
  refine PySem.W.callWith_KW0 (first := []) (h₀ := X.base) I2.ok.mod.kin c.kp hall (thn (hkw.run pos pins s2 σ H1 _ I2 q) fun ws s3 ⟨zs, H2, I3, rz, q2⟩ => ⟨I3.kIn, ?_⟩) hpl
  rw [hks]
  exact run_fnk (us := []) (vs := []) F hr hb hx I3 .nil rz q2
end
end KD
set_option Elab.async false
set_option linter.all false
set_option maxRecDepth 100000
set_option maxHeartbeats 4000000
namespace KD
open PySem PySem.Spec PyProof.Rows L2 Evl
local macro_rules | `(tactic| walk_at "ev") => `(tactic| repeat' (first | exact ev_c | exact ev_var rfl | exact rv_I0 | refine' rv_I ?_ | refine' rv_eq ?_ | refine' rv_ne ?_ | refine' ev_op ?_ ?_ ?_ | exact ea_nil | refine' ea_cons ?_ ?_ | refine' et_test ?_ | refine' et_B ?_ | refine' et_not ?_ | refine' ev_notV ?_))

open PySem
/-! ### the caught error: isinstance, its field -/
def rIsD (K : PySem.W.Frag) (D a : Addr) (cls : Value) (d : Option Addr) : List V → Hp → VK → Prop := fun xs H Q => ∃ (c : V) (cv : Value) (b : Bool) (dd : Addr) (fs : List (Str × V)), xs = [.ref a, c] ∧ (∀ u, RelV c u → u = cv) ∧ cls = .ref D ∧ d = some dd ∧ H dd = some (.xd fs) ∧ PySem.W.kitOne K (.ref D) cv = some b ∧ Q (.bl b) H
def tPartE (D a : Addr) (cls : Value) (d : Option Addr) (te : TE) : TE := fun σ H Q => te σ H fun x H1 => x = .ref a ∧ cls = .ref D ∧ ∃ (dd : Addr) (v : V), d = some dd ∧ H1 dd = some (.xd [(("part" : Str), v)]) ∧ Q v H1
section
variable {X : Cx} {a D dd : Addr} {oe : Obj} {cls : Value} {d : Option Addr} {pn pins : List (Addr × Obj)} {σ : L2.St} {H : Hp} {s : Shared} {e : Expr} {te : TE} {pos : Pos} {fs : List (Str × V)}
theorem inst_xd (I : Inv (X.suite a ((a, oe) :: pn)) pins σ H s) (hz : Zc (.ref D) (some dd) oe) (hf : ∃ vs, oe.data = .fields vs) (hd : H dd = some (.xd fs)) : ∃ od, PySem.W.InstAt s.heap a oe D (some od) ∧ s.heap.get? dd = some od := by
  obtain ⟨hget, _⟩ := I.pin (a, oe) (List.mem_append_left _ List.mem_cons_self)
  obtain ⟨vs, hv⟩ := hf
  have hx : ObjOk X.prog X.w H s.heap dd (.xd fs) := I.hok dd _ hd
  obtain ⟨mA, hns, _⟩ := hx
  obtain ⟨od, ho, _⟩ := lookIn_ns hns
  exact ⟨od, ⟨hget, hz.1, by unfold PySem.W.notCls; rw [hv] <;> rfl, by rw [hz.2]; exact ho⟩, ho⟩
theorem call_isD (C : ExcC X.K D) (hcl : (PySem.W.clsIn X.K D).isSome = true) (hz : Zc cls d oe) (hf : ∃ vs, oe.data = .fields vs) : CallR (X.suite a ((a, oe) :: pn)) (.builtin "isinstance") (rIsD X.K D a cls d) := by
  intro pins s σ H xs us Q I r h
  obtain ⟨c, cv, b, dd, fs, rfl, hcv, rfl, rfl, hd, e, q⟩ := h
  cases r with
  | cons rx rr =>
    cases rr with
    | cons rt rr =>
      cases rr
      cases rx
      have ec := hcv _ rt
      subst ec
      obtain ⟨od, J, _⟩ := inst_xd I hz hf hd
      exact PySem.W.kia_one (PySem.W.kitx_exc hcl C.hg C.hk C.hs C.ha C.hn C.ht C.hm) I.kIn J e (fun z => nomatch z) fun tk => ⟨.bl b, H, I.kept (t' := tk) fun _ _ z => z, rfl, q⟩
theorem pe_part (C : ExcC X.K D) (no : PySem.W.findIn X.K (.ref D) "part" = some none) (hz : Zc cls d oe) (hf : ∃ vs, oe.data = .fields vs) (he : PE (X.suite a ((a, oe) :: pn)) e te) (hb : attributeBase e "part" X.env (eval e X.env) = eval e X.env := by rfl) :
    PE (X.suite a ((a, oe) :: pn)) (.Attribute e "part" pos) (tPartE D a cls d te) where
  run := fun pins s σ H Q I h => by
    refine attr_of hb (thn (he.run pins s σ H _ I h) fun u s1 hh => ?_)
    obtain ⟨x, H1, I1, rx, rfl, rfl, dd, v, rfl, ea, q⟩ := hh
    obtain rfl : u = Value.ref a := rx
    obtain ⟨hget, _⟩ := I1.pin (a, oe) (List.mem_append_left _ List.mem_cons_self)
    obtain ⟨vs, hv⟩ := hf
    have hx : ObjOk X.prog X.w H1 s1.heap dd (.xd [(("part" : Str), v)]) := I1.hok dd _ ea
    obtain ⟨mA, hns, rel⟩ := hx
    obtain ⟨od, ho, looks⟩ := lookIn_ns hns
    have l : List.lookup ("part" : Str) [(("part" : Str), v)] = some v := by simp [List.lookup]
    obtain ⟨w', hw, rw'⟩ := RelO.some_of (v := v) (o := mA "part") (by rw [← l]; exact rel "part")
    have J : PySem.W.InstAt s1.heap a oe D (some od) := ⟨hget, hz.1, by unfold PySem.W.notCls; rw [hv] <;> rfl, by rw [hz.2]; exact ho⟩
    exact HandSPX.exc_get I1.kIn J C.hg C.hk C.hs (PySem.W.findObj_own C.hd no rfl (by rw [looks, hw])) (handed_of rw') ⟨v, H1, I1.tok _, rw', q⟩
end
end KD
set_option Elab.async false
set_option linter.all false
set_option maxRecDepth 100000
set_option maxHeartbeats 4000000
namespace KD
open PySem PySem.Spec PyProof.Rows L2 Evl
local macro_rules | `(tactic| walk_at "ev") => `(tactic| repeat' (first | exact ev_c | exact ev_var rfl | exact rv_I0 | refine' rv_I ?_ | refine' rv_eq ?_ | refine' rv_ne ?_ | refine' ev_op ?_ ?_ ?_ | exact ea_nil | refine' ea_cons ?_ ?_ | refine' et_test ?_ | refine' et_B ?_ | refine' et_not ?_ | refine' ev_notV ?_))

open PySem LamX
theorem Takes.len {X : Cx} {W : WX} (t : Takes X W) : Takes X (fun c d σ H => σ.length = X.N.length → W c d σ H) := fun u s' ⟨a, B, sI, pins, σ, H, cls, d, e, I, nb, up, sky, na, os, ag, w⟩ => t u s' ⟨a, B, sI, pins, σ, H, cls, d, e, I, nb, up, sky, na, os, ag, w I.len⟩
theorem op_neE {X : Cx} {K : PySem.W.Frag} (h : X.K = K) (hu : X.A.units + 64 < cLine) : OpR X (compareOp .NotEq) (rNeD K) := by
  subst h
  exact op_neD hu
theorem cl_of {K : PySem.W.Frag} {D : Addr} (C : ExcC K D) : (PySem.W.clsIn K D).isSome = true := by
  obtain ⟨cd, hc, _⟩ := PySem.W.any_some C.hd
  rw [hc]
  rfl
section
variable {K : PySem.W.Frag} {σ : L2.St} {H : Hp} {te : TE} {D a0 dd : Addr} {cls cv : Value} {d : Option Addr} {c : V} {b : Bool} {s : Str} {fs : List (Str × V)}
theorem ev_isD (hv : σ[1]? = some (some (.ref a0))) (hc : Ev te σ H c) (rel : ∀ u, RelV c u → u = cv) (h1 : cls = .ref D) (h2 : d = some dd) (hx : H dd = some (.xd fs)) (e : PySem.W.kitOne K (.ref D) cv = some b) : Ev (tCB (rIsD K D a0 cls d) (tCons (tVar 1) (tCons te tNil))) σ H (.bl b) := fun H1 e1 Q q =>
  ⟨.ref a0, hv, hc H1 e1 _ fun H2 e2 => ⟨c, cv, b, dd, fs, rfl, rel, h1, h2, e2 _ _ (e1 _ _ hx), e, q H2 e2⟩⟩
theorem ev_partD (hv : σ[1]? = some (some (.ref a0))) (h1 : cls = .ref D) (h2 : d = some dd) (hx : H dd = some (.xd [(("part" : Str), .str s)])) : Ev (tPartE D a0 cls d (tVar 1)) σ H (.str s) := fun H1 e1 Q q =>
  ⟨.ref a0, hv, rfl, h1, dd, .str s, h2, e1 _ _ hx, q H1 (Ex.refl H1)⟩
theorem rv_neMarks {p q : Addr} (h1 : H p = some (.lst [.bl true, .bl false, .bl true])) (h2 : H q = some (.lst [.bl true, .bl false, .bl true])) : RV (rNeD K) (.ref p) (.ref q) H (.bl false) := fun H1 e Q k =>
  ⟨.list [.bool true, .bool false, .bool true], .list [.bool true, .bool false, .bool true], .lst (sq_of (e _ _ h1)) (.cons (.bl _) (.cons (.bl _) (.cons (.bl _) .nil))), .lst (sq_of (e _ _ h2)) (.cons (.bl _) (.cons (.bl _) (.cons (.bl _) .nil))), by decide +kernel, by decide +kernel, by
    rw [show PyData.eqv (.list [.bool true, .bool false, .bool true]) (.list [.bool true, .bool false, .bool true]) = true by decide +kernel]
    exact k H1 (Ex.refl H1)⟩
end
/-- what the answer is of what is asked: a BadMode with the part s -/
def HeardX (a : Ads) (Q : VK) : XK := fun cls d H' => cls = .ref a.x_BadMode ∧ ∃ (dd : Addr) (s : Str), d = some dd ∧ H' dd = some (.xd [(("part" : Str), .str s)]) ∧ ∀ t H'', H' t = none → Ex H' H'' → H'' t = some (.tup [.str "mode", .str s]) → Q (.ref t) H''
def THeard (a : Ads) : (XK → Hp → VK → Prop) → Hp → VK → Prop := fun tl H Q => tl (HeardX a Q) H fun x H1 => [V.str "told", x].length ≤ sizeLine ∧ ∀ p, H1 p = none → Q (.ref p) (upd H1 p (.tup [.str "told", x]))
theorem heard_gives {X : Cx} {a : Ads} {q : Str} {cdv : Value} (T : Txt X.w X.K X.mg a) (hu : X.A.units + 100 < cLine) : GivesTo X n__law_heard "_law_heard" (defScope s__law_heard) a.f__law_heard cdv (defBody s__law_heard) "_law_ask" q (THeard a) := by
  intro f c' s H Q tl act hc h
  refine ⟨_, pss_cons (ps_try_as (X := (cxOf C8.CX0 X.prog X.w X.K X.mg X.base n__law_heard "_law_heard" (defScope s__law_heard) a.f__law_heard cdv X.A X.stack s H C8.E0).nox) (c := .ref a.x_ModesError) (i := 1)
      (tb := fun W D σ H => ∃ Ech : XK, (∀ cls d σ' H', Ech cls d H' → σ'.length = 3 → W cls d σ' H') ∧ σ[0]? = some (some (.ref f)) ∧ H c' = some (CodeO c' q) ∧ tl Ech H fun x H1 => [V.str "told", x].length ≤ sizeLine ∧ ∀ p, H1 p = none → D.rt (.ref p) (upd H1 p (.tup [.str "told", x])))
      rfl rfl sc__law_heard.nd rfl rfl ⟨rfl, by decide, .inl T.mg_ModesError⟩ L2.takes0 (fun W pn xe tk _ => ?body) (fun a0 oe cls d pn hz hf => (pss_cons (ps_set (i := 2) sc__law_heard.nd rfl (Or.inl rfl) (pe_lst (pa_cons (pe_callB (call_isD T.ec_BadMode (cl_of T.ec_BadMode) hz hf) (by rfl) T.b_isinstance PyProof.Rows.boot_isinstance (pa_cons (pv 1) (pa_cons (pe_glob (v := .ref a.x_BadInput) rfl T.mg_BadInput rfl) pa_nil))) (pa_cons (pe_callB (call_isD T.ec_BadMode (cl_of T.ec_BadMode) hz hf) (by rfl) T.b_isinstance PyProof.Rows.boot_isinstance (pa_cons (pv 1) (pa_cons (pe_glob (v := .ref a.x_NoWay) rfl T.mg_NoWay rfl) pa_nil))) (pa_cons (pe_callB (call_isD T.ec_BadMode (cl_of T.ec_BadMode) hz hf) (by rfl) T.b_isinstance PyProof.Rows.boot_isinstance (pa_cons (pv 1) (pa_cons (pe_bltn (v := .ty "ValueError") (by rfl) T.b_ValueError PyProof.Rows.Boot.«ValueError» rfl) pa_nil))) pa_nil)))))
    (pss_cons (ps_if (pt_cmpR (op_neE (K := X.K) rfl (by show X.A.units + 3 + 64 < cLine; omega)) (pv 2) (pe_lst (pa_cons pe_bl (pa_cons pe_bl (pa_cons pe_bl pa_nil)))) (nomark _)) (pss_one (ps_ret (pe_tup (pa_cons pe_str pa_nil)))) pss_nil)
    (pss_cons (ps_if (PW.pt (pw_and (pt_val (pe_callB (call_isD T.ec_BadMode (cl_of T.ec_BadMode) hz hf) (by rfl) T.b_isinstance PyProof.Rows.boot_isinstance (pa_cons (pv 1) (pa_cons (pe_glob (v := .ref a.x_BadMode) rfl T.mg_BadMode rfl) pa_nil)))) (pw_and1 (pt_not (pt_val (pe_callB (call_isD T.ec_BadMode (cl_of T.ec_BadMode) hz hf) (by rfl) T.b_isinstance PyProof.Rows.boot_isinstance (pa_cons (pv 1) (pa_cons (pe_glob (v := .ref a.x_BadText) rfl T.mg_BadText rfl) pa_nil)))))))) (pss_one (ps_ret (pe_tup (pa_cons pe_str (pa_cons (pe_part T.ec_BadMode T.np_BadMode hz hf (pv 1)) pa_nil))))) pss_nil)
    (pss_one ps_never)))))) (pss_one (ps_ret (pe_tup (pa_cons pe_str pa_nil)))), ?reading⟩
  case body =>
    refine ⟨fun pins s' σ H' D I h' => ?_⟩
    obtain ⟨Ech, hW, h1, h2, h3⟩ := h'
    exact (pss_one (ps_ret (pe_tup (pa_cons pe_str (pa_cons (act _ pn xe Ech _ _ (Takes.len tk) (fun cls d σ' H' e => hW cls d σ' H' e)) pa_nil))))).run pins s' σ H' D I ⟨h1, h2, h3⟩
  case reading =>
    refine ⟨HeardX a Q, fun cls d σ' H' hx len => ?_, rfl, hc, h⟩
    obtain ⟨hcls, dd, s, hd, hxd, kk⟩ := hx
    refine ⟨true, by rw [hcls]; exact T.em_BadMode, fun _ a0 ha0 => ?_, fun z => nomatch z⟩
    match σ', len with
    | [x, y, z], _ =>
      refine q_asgL (xs := [.bl true, .bl false, .bl true]) (el_lst (ea_cons (ev_isD (K := X.K) rfl ev_c (fun u r => r) hcls hd hxd T.ks_BadInput) (ea_cons (ev_isD (K := X.K) rfl ev_c (fun u r => r) hcls hd hxd T.ks_NoWay) (ea_cons (ev_isD (K := X.K) rfl ev_c (fun u r => r) hcls hd hxd T.ks_ValueError) ea_nil))) (by show 3 ≤ 100000; decide)) fun m H1 _ e1 h1 => ?_
      refine q_when (b := false) (et_test (ev_opL (ev_var rfl) (el_lst (ea_cons ev_c (ea_cons ev_c (ea_cons ev_c ea_nil))) (by show 3 ≤ 100000; decide)) fun p H2 hp e2 => rv_neMarks (K := X.K) (e2 _ _ h1) hp)) (fun z => nomatch z) fun _ H2 e2 => ?_
      have hx2 := (e1.trans e2) _ _ hxd
      refine q_when (b := true) (et_and (a := true) (b := true) (et_B (ev_isD (K := X.K) rfl ev_c (fun u r => r) hcls hd hx2 T.ks_BadMode)) fun _ => et_is (et_not (a := false) (et_B (ev_isD (K := X.K) rfl ev_c (fun u r => r) hcls hd hx2 T.ks_BadText))) rfl) (fun _ H3 e3 => ?_) (fun z => nomatch z)
      exact s_retU (xs := [.str "mode", .str s]) (eu_tup (ea_cons ev_c (ea_cons (ev_partD rfl hcls hd (e3 _ _ hx2)) ea_nil)) (by show 2 ≤ 100000; decide)) fun t H4 ht e4 h4 => kk t H4 (fresh_back ((e1.trans e2).trans e3) ht) (((e1.trans e2).trans e3).trans e4) h4
end KD
set_option Elab.async false
set_option linter.all false
set_option maxRecDepth 100000
set_option maxHeartbeats 4000000
namespace KD
open PySem PySem.Spec PyProof.Rows L2 Evl
local macro_rules | `(tactic| walk_at "ev") => `(tactic| repeat' (first | exact ev_c | exact ev_var rfl | exact rv_I0 | refine' rv_I ?_ | refine' rv_eq ?_ | refine' rv_ne ?_ | refine' ev_op ?_ ?_ ?_ | exact ea_nil | refine' ea_cons ?_ ?_ | refine' et_test ?_ | refine' et_B ?_ | refine' et_not ?_ | refine' ev_notV ?_))

open PySem LamX
/-! ### what stays when objects are drawn from, and when a lambda is made -/
/-- all stays but dicts and tables -/
def Sd (H H' : Hp) : Prop := ∀ b o, H b = some o → (∀ ps, o ≠ .tbl ps) → (∀ kvs, o ≠ .dK kvs) → H' b = some o
theorem Sd.of {H H' : Hp} (e : Ex H H') : Sd H H' := fun b o h _ _ => e b o h
theorem Sd.ofN {H H' : Hp} (e : ExtN H H') : Sd H H' := fun b o h n _ => e b o h n
theorem Sd.ofB {H H' : Hp} {p : Addr} (hb : BagAt H p) (e : ExB p H H') : Sd H H' := fun b o h _ n => e b o h fun q => by
  obtain ⟨l, ns, at_, r, s, h1, _⟩ := hb
  rw [q, h1] at h
  cases h
  exact n _ rfl
theorem Sd.trans {H H1 H2 : Hp} (a : Sd H H1) (b : Sd H1 H2) : Sd H H2 := fun c o h n m => b c o (a c o h n m) n m
theorem ModeAt.sd {a : Ads} {H H' : Hp} {p : Addr} {n : Nat} (m : ModeAt a H p n) (e : Sd H H') : ModeAt a H' p n := by
  obtain ⟨dx, h⟩ := m
  exact ⟨dx, e _ _ h (fun _ z => nomatch z) (fun _ z => nomatch z)⟩
theorem BagAt.keepN {H H' : Hp} {p : Addr} (h : BagAt H p) (e : ExtN H H') : BagAt H' p := by
  obtain ⟨l, ns, at_, rest, state, h1, h2, h3⟩ := h
  exact ⟨l, ns, at_, rest, state, e _ _ h1 (fun _ z => nomatch z), e _ _ h2 (fun _ z => nomatch z), h3⟩
theorem tabs_exB {T : List (Addr × Str)} {H H' : Hp} {p : Addr} (t : Tabs T H) (hb : BagAt H p) (e : ExB p H H') : Tabs T H' := fun q hq => by
  obtain ⟨ps, h1, tr, h2⟩ := t q hq
  obtain ⟨l, ns, at_, r, s, hd, _⟩ := hb
  refine ⟨ps, e _ _ h1 (ne_of h1 hd fun z => nomatch z), tr, fun pos cv hc => ?_⟩
  obtain ⟨c, e1, e2⟩ := h2 pos cv hc
  exact ⟨c, e1, e _ _ e2 (ne_of e2 hd fun z => nomatch z)⟩
theorem tabs_keep {T : List (Addr × Str)} {H H' : Hp} (t : Tabs T H) (e : Ex H H') : Tabs T H' := LamX.Tabs.ext t e
/-! ### odd values -/
inductive KindV (H : Hp) : V → String → Prop
  | non : KindV H .non "NoneType"
  | int (i : Int) : KindV H (.int i) "int"
  | bl (b : Bool) : KindV H (.bl b) "bool"
  | str (s : Str) : KindV H (.str s) "str"
  | tup {p : Addr} {xs : List V} (h : H p = some (.tup xs)) : KindV H (.ref p) "tuple"
  | lst {p : Addr} {xs : List V} (h : H p = some (.lst xs)) : KindV H (.ref p) "list"
theorem KindV.sd {H H' : Hp} {x : V} {t : String} (h : KindV H x t) (e : Sd H H') : KindV H' x t := by
  cases h with
  | non => exact .non
  | int i => exact .int i
  | bl b => exact .bl b
  | str s => exact .str s
  | tup h => exact .tup (e _ _ h (fun _ z => nomatch z) (fun _ z => nomatch z))
  | lst h => exact .lst (e _ _ h (fun _ z => nomatch z) (fun _ z => nomatch z))
theorem KindV.ty {K : PySem.W.Frag} {H : Hp} {x : V} {t : String} (h : KindV H x t) : TyX K H x (.type t) := by
  cases h with
  | non => exact .base .non
  | int i => exact .base (.int i)
  | bl b => exact .base (.bl b)
  | str s => exact .base (.str s)
  | tup h => exact .base (.tup h)
  | lst h => exact .base (.lst h)
def BadV (H : Hp) (x : V) (m : Int) : Prop := (∃ (t : String) (b1 b2 : Bool), KindV H x t ∧ kitB t "int" = some b1 ∧ kitB t "bool" = some b2 ∧ (b1 && !b2) = false) ∨ ∃ i : Int, x = .int i ∧ (i < 0 ∨ m < i)
theorem BadV.sd {H H' : Hp} {x : V} {m : Int} (h : BadV H x m) (e : Sd H H') : BadV H' x m := h.imp (fun ⟨t, b1, b2, k, r⟩ => ⟨t, b1, b2, k.sd e, r⟩) id
theorem BadV.bad {K : PySem.W.Frag} {H : Hp} {x : V} {m : Int} (h : BadV H x m) : BadW K H x m := h.imp (fun ⟨t, b1, b2, k, r⟩ => ⟨t, b1, b2, fun _ e => (k.sd (Sd.of e)).ty, r⟩) id
theorem kb_non : kitB "NoneType" "int" = some false ∧ kitB "NoneType" "bool" = some false := by decide +kernel
theorem kb_bl : kitB "bool" "int" = some true ∧ kitB "bool" "bool" = some true := by decide +kernel
theorem kb_str : kitB "str" "int" = some false ∧ kitB "str" "bool" = some false := by decide +kernel
theorem kb_tup : kitB "tuple" "int" = some false ∧ kitB "tuple" "bool" = some false := by decide +kernel
theorem kb_lst : kitB "list" "int" = some false ∧ kitB "list" "bool" = some false := by decide +kernel
theorem bag_app {H : Hp} {p l h : Addr} {xs ys : List V} (b : BagAt H p) (hl : H l = some (.lst (.ref h :: xs))) : BagAt (upd H l (.lst ys)) p := by
  obtain ⟨c, ns, at_, rest, state, h1, h2, h3⟩ := b
  have n1 : p ≠ l := ne_of h1 hl fun z => nomatch z
  have n2 : c ≠ l := fun q => by
    rw [q, hl] at h2
    injection h2 with h2
    injection h2 with h2
    match ns, h2 with
    | [], h2 => cases h2
    | _ :: _, h2 => cases h2
  exact ⟨c, ns, at_, rest, state, by rw [upd_ne n1]; exact h1, by rw [upd_ne n2]; exact h2, h3⟩
theorem tab_app {H : Hp} {T : List (Addr × Str)} {l : Addr} {xs ys : List V} (t : Tabs T H) (hl : H l = some (.lst xs)) : Tabs T (upd H l (.lst ys)) := fun q hq => by
  obtain ⟨ps, h1, tr, h2⟩ := t q hq
  refine ⟨ps, by rw [upd_ne (ne_of h1 hl fun z => nomatch z)]; exact h1, tr, fun pos cv hc => ?_⟩
  obtain ⟨c, e1, e2⟩ := h2 pos cv hc
  exact ⟨c, e1, by rw [upd_ne (ne_of e2 hl fun z => nomatch z)]; exact e2⟩
/-- a draw -/
theorem draw_is {σ : L2.St} {H : Hp} {E : XK} {p : Addr} {i : Nat} {Q : VK} (m : Nat) (hi : σ[i]? = some (some (.ref p))) (hb : BagAt H p) (h0 : 0 < m) (h1 : m ≤ 1000) (k : ∀ d H', d < m → ExB p H H' → BagAt H' p → Q (.int (d : Nat)) H') : tCall spDraw [] E (tCons (tVar i) (tCons (tC (.int (m : Nat))) tNil)) σ H Q :=
  ⟨.ref p, hi, p, m, rfl, hb, h0, h1, fun d H' hd e b => k d H' hd e b⟩
end KD
set_option Elab.async false
set_option linter.all false
set_option maxRecDepth 100000
set_option maxHeartbeats 4000000
namespace KD
open PySem PySem.Spec PyProof.Rows L2 Evl
local macro_rules | `(tactic| walk_at "ev") => `(tactic| repeat' (first | exact ev_c | exact ev_var rfl | exact rv_I0 | refine' rv_I ?_ | refine' rv_eq ?_ | refine' rv_ne ?_ | refine' ev_op ?_ ?_ ?_ | exact ea_nil | refine' ea_cons ?_ ?_ | refine' et_test ?_ | refine' et_B ?_ | refine' et_not ?_ | refine' ev_notV ?_))

open PySem
/-! a text and a tuple, side by side -/
theorem five {p : Addr → Prop} {c1 c2 c3 c4 c5 : Addr} (a1 : p c1) (a2 : p c2) (a3 : p c3) (a4 : p c4) (a5 : p c5) : ∀ c ∈ [c1, c2, c3, c4, c5], p c :=
  List.forall_mem_cons.mpr ⟨a1, List.forall_mem_cons.mpr ⟨a2, List.forall_mem_cons.mpr ⟨a3, List.forall_mem_cons.mpr ⟨a4, List.forall_mem_cons.mpr ⟨a5, List.forall_mem_nil _⟩⟩⟩⟩⟩
theorem off5 {c c1 c2 c3 c4 c5 : Addr} (h : c ∉ [c1, c2, c3, c4, c5]) : c ≠ c1 ∧ c ≠ c3 ∧ c ≠ c4 ∧ c ≠ c5 := by
  simp only [List.mem_cons, List.not_mem_nil, or_false, not_or] at h
  exact ⟨h.1, h.2.2.1, h.2.2.2⟩
/-- where the two iterators, their pair and the zip stand, i turns on -/
structure SideAt (x : Str) (t : Tok) (b z TI TO i1 i2 : Addr) (i : Nat) (h : Heap) : Prop where
  zip : IsZip h z TI TO .none
  its : IsTupOf2 h TI (.ref i1) (.ref i2)
  out : ∃ v1 v2, IsTupOf2 h TO v1 v2
  txt : h.IsStrIter i1 (strIterType x) x t i
  tup : h.IsTupleIter i2 b i
section
variable {x : Str} {t : Tok} {b z TI TO i1 i2 : Addr} {i : Nat} {h h' : Heap}
theorem SideAt.obj (q : SideAt x t b z TI TO i1 i2 i h) : ∀ c ∈ [z, TI, TO, i1, i2], ∃ o, h.get? c = some o ∧ ∀ v, o.data ≠ .cell v := by
  obtain ⟨v1, v2, ho⟩ := q.out
  obtain ⟨p1, g1, _, n1⟩ := q.txt
  obtain ⟨p2, g2, _, n2⟩ := q.tup
  exact five ⟨_, q.zip, nofun⟩ ⟨_, q.its, nofun⟩ ⟨_, ho, nofun⟩ ⟨p1, g1, by rw [n1]; exact nofun⟩ ⟨p2, g2, by rw [n2]; exact nofun⟩
theorem SideAt.lt (q : SideAt x t b z TI TO i1 i2 i h) : ∀ c ∈ [z, TI, TO, i1, i2], c < h.objs.size := fun c m => let ⟨_, e, _⟩ := q.obj c m; Heap.lt_size e
theorem SideAt.keep (q : SideAt x t b z TI TO i1 i2 i h) (k : ∀ c ∈ [z, TI, TO, i1, i2], ∀ o, h.get? c = some o → h'.get? c = some o) : SideAt x t b z TI TO i1 i2 i h' := by
  obtain ⟨v1, v2, ho⟩ := q.out
  obtain ⟨p1, g1, n1⟩ := q.txt
  refine ⟨k z ?_ _ q.zip, k TI ?_ _ q.its, ⟨v1, v2, k TO ?_ _ ho⟩, ⟨p1, k i1 ?_ _ g1, n1⟩, q.tup.at fun o e => k i2 ?_ o e⟩ <;> simp
end
/-- what a walk over both gives: pairs of a sign and an item -/
def ItzS (K : PySem.W.Frag) (x : Str) (b : Addr) : It :=
  ⟨fun i H => ∃ (ys : List V) (c : Nat) (y : V), SqT K H b ys ∧ x.cps[i]? = some c ∧ ys[i]? = some y,
    fun i H v H' => ∃ (T : Addr) (c : Nat) (y : V), v = .ref T ∧ H T = none ∧ H' = upd H T (.tup [.str ⟨#[c]⟩, y]) ∧ x.cps[i]? = some c ∧ ∀ ys, SqT K H b ys → ys[i]? = some y,
    fun i H => ∃ ys : List V, SqT K H b ys ∧ ys.length = x.cps.size ∧ i = ys.length⟩
theorem turn_zipS {P : Program} {w : World} {K : PySem.W.Frag} {elts : List Expr} {kk : Nat} {tpos : Pos} {x : Str} {t : Tok} {b z TI TO i1 i2 : Addr} (S : ZipSep2 z TI TO i1 i2 [i1] [i2, b]) (hb : b ≠ i2) :
    Turn P w K (.Tuple elts kk tpos) (ItzS K x b) [z, TI, TO, i1, i2] z (SideAt x t b z TI TO i1 i2) where
  mem := List.mem_cons_self ..
  obj := fun _ _ q => q.obj
  keep := fun _ _ _ q k => q.keep k
  self := fun _ _ _ _ _ q k => wpAny_pyIter_zip q.zip k
  item := by
    intro X e1 e2 e3 calm i pins s σ H E I free st more
    subst e1 e2 e3
    obtain ⟨ys, c, y, seq, hx, hy⟩ := more
    obtain ⟨us, ru, isT, _⟩ := I.tuple seq
    obtain ⟨u, hu, ry⟩ := ru.get hy
    have quiet : X.A.in1.handled = none := I.ok.hd calm
    have in1 : i < x.cps.size := (Array.getElem?_eq_some_iff.mp hx).1
    have in2 : i < us.toArray.size := by simpa using (List.getElem?_eq_some_iff.mp hu).1
    obtain ⟨v1, v2, out⟩ := st.out
    refine wpAny_pyNext_zipD2_item S (Draws.text quiet i1 x t) (Draws.tuple quiet i2 b hb us.toArray) st.zip st.its out st.txt ⟨st.tup, isT⟩ in1 in2 fun w1 w2 g tk ⟨c1, t1, hc1, ew⟩ hw2 gz gO g1 g2 gT _ rest => ?_
    subst ew
    obtain rfl : c = c1 := Option.some.inj (hx.symm.trans hc1)
    obtain rfl : u = w2 := Option.some.inj ((show us.toArray[i]? = some u by simpa using hu).symm.trans hw2)
    have zlt := st.lt z (List.mem_cons_self ..)
    refine ⟨_, rfl, wpAny_letOwnedTupleGo_zip (s := { s with heap := g, toks := tk }) gz fun g' gz' but => ?_⟩
    have gT' := (but.2 _ (Nat.ne_of_gt zlt)).trans gT
    have pair : ObjOk X.prog X.w (upd H s.heap.objs.size (.tup [.str ⟨#[c]⟩, y])) g' s.heap.objs.size (.tup [.str ⟨#[c]⟩, y]) := ⟨by show 2 ≤ sizeLine; decide, [.str ⟨#[c]⟩ t1, u], .cons ⟨t1, rfl⟩ (.cons ry .nil), ⟨_, gT', rfl, _, rfl⟩⟩
    have far : ∀ c' o, c' ∉ [z, TI, TO, i1, i2] → s.heap.get? c' = some o → g'.get? c' = some o := fun c' o n e => by
      obtain ⟨n1, n2, n3, n4⟩ := off5 n
      exact (but.2 c' n1).trans (rest c' o n1 n2 n3 n4 e)
    refine ⟨.ref s.heap.objs.size, _, I.turnedNew (t' := tk) (ch := [z, TI, TO, i1, i2]) far free (Nat.le_refl _) pair, rfl, ⟨_, c, y, rfl, I.hok.fresh (Nat.le_refl _), rfl, hx, fun l hl => by rw [I.tuple_inj hl seq]; exact hy⟩, ?_, fun c' m => ?_⟩
    · obtain ⟨p1, q1, r1⟩ := g1
      exact ⟨gz', (but.2 _ S.TIz).trans (rest _ _ S.TIz S.TITO S.TIi1 S.TIi2 st.its), ⟨_, _, (but.2 _ S.TOz).trans gO⟩, ⟨p1, (but.2 _ S.zi1.symm).trans q1, r1⟩, g2.1.at fun o q => (but.2 _ S.zi2.symm).trans q⟩
    · exact (upd_ne (Nat.ne_of_lt (st.lt c' m))).trans (free c' m).1
  done := by
    intro X e1 e2 e3 calm i pins s σ H E I free st over
    subst e1 e2 e3
    obtain ⟨ys, seq, len, rfl⟩ := over
    obtain ⟨us, ru, isT, _⟩ := I.tuple seq
    have quiet : X.A.in1.handled = none := I.ok.hd calm
    have size : us.toArray.size = ys.length := by rw [ru.length]; simp
    obtain ⟨v1, v2, out⟩ := st.out
    exact wpAny_pyNext_zipD2_end S (Draws.text quiet i1 x t) (Draws.tuple quiet i2 b hb us.toArray) st.zip st.its out st.txt ⟨st.tup, isT⟩ (Nat.le_of_eq len) (Nat.le_of_eq size.symm) (.inl len) fun g tk rest => ⟨rfl, I.turnedL (t' := tk) (ch := [z, TI, TO, i1, i2]) (fun c o n e => by
      obtain ⟨n1, n2, n3, n4⟩ := off5 n
      exact rest c o n1 n2 n3 n4 e) free⟩
def iZipS (K : PySem.W.Frag) (ta : TA) : TI := fun σ H R => ta σ H fun vs H1 => ∃ x b ys, vs = [.str x, .ref b] ∧ SqT K H1 b ys ∧ R (ItzS K x b) H1
theorem pi_zipS {X : Cx} {e d : Expr} {ta : TA} {p pos tpos : Pos} {elts : List Expr} {kk : Nat} (hg : Gl X "zip") (hm : X.mg "zip" = none) (ha : PA X [e, d] ta) (flat : starEach [e, d] X.env = (false, eval e X.env) :: starEach [d] X.env := by rfl)
    (plain : (backTo pos (starEach [d] X.env)).any (·.1) = false := by rfl) : PI X (.Tuple elts kk tpos) (.Call (.Name "zip" p) [e, d] [] pos) (iZipS X.K ta) where
  run := fun pins s σ H R I start => by
    refine Call_ (ld_blt I hg hm PyProof.Rows.boot_zip (PyProof.Rows.callWith_type1 (thn (ha.run pos pins s σ H _ I start) fun us s1 ⟨vs, H1, J, r, x, b, ys, ev, seq, go⟩ => ?_) flat plain))
    subst ev
    cases r with | cons q1 q2 => ?_
    cases q2 with | cons q2 q3 => ?_
    cases q3
    obtain ⟨t, rfl⟩ := q1
    cases q2
    obtain ⟨ws, _, isT, _⟩ := J.tuple seq
    have bl : b < s1.heap.objs.size := let ⟨_, ho, _⟩ := id isT; Heap.lt_size ho
    have young : ∀ j, FpOk X pins H1 (s1.heap.objs.size + j) := fun j => J.fpOk (Nat.le_add_right ..) (J.hok.fresh (Nat.le_add_right ..))
    have isT' : s1.heap.IsTuple b ws.toArray := isT
    refine zip_begins2 (begins_text x t) (begins_tuple b ws.toArray) trivial isT' fun g gz gI gO g1 g2 _ rest => wpAny_pyIter_zip gz ?_
    exact ⟨s1.heap.objs.size + 4, _, SideAt x t b (s1.heap.objs.size + 4) (s1.heap.objs.size + 2) (s1.heap.objs.size + 3) s1.heap.objs.size (s1.heap.objs.size + 1), ItzS X.K x b, H1, rfl, J.kept (t' := s1.toks) rest, turn_zipS (t := t) (zip_sep2 nofun fun c m => List.mem_singleton.mp m ▸ bl) (Nat.ne_of_lt (Nat.lt_succ_of_lt bl)), ⟨gz, gI, ⟨_, _, gO⟩, ⟨_, g1, rfl, rfl⟩, ⟨_, g2, rfl, rfl⟩⟩, five (young 4) (young 2) (young 3) (young 0) (young 1), go⟩
end KD

set_option Elab.async false
set_option linter.all false
set_option maxRecDepth 100000
set_option maxHeartbeats 4000000
namespace KD
open PySem PySem.Spec PyProof.Rows L2 Evl
local macro_rules | `(tactic| walk_at "ev") => `(tactic| repeat' (first | exact ev_c | exact ev_var rfl | exact rv_I0 | refine' rv_I ?_ | refine' rv_eq ?_ | refine' rv_ne ?_ | refine' ev_op ?_ ?_ ?_ | exact ea_nil | refine' ea_cons ?_ ?_ | refine' et_test ?_ | refine' et_B ?_ | refine' et_not ?_ | refine' ev_notV ?_))

theorem given_all {n : Nat} {v : Nat → V} : given n (fun _ => true) v = (List.range n).map v := by
  unfold given
  rw [List.filter_eq_self.mpr fun _ _ => rfl]
theorem pe_fldE {X : Cx} {K : PySem.W.Frag} {o : Expr} {f : Str} {apos : Pos} {ta : TE} (ha : PE X o ta) (hb : attributeBase o f X.env (eval o X.env) = eval o X.env) (hK : X.K = K := by rfl) : PE X (.Attribute o f apos) (tFld K ta f) := by
  subst hK
  exact pe_fld ha hb
open PySem
theorem pt_truthE {X : Cx} {K : PySem.W.Frag} {e : Expr} {ta : TE} (ha : PE X e ta) (he : ∀ whole, isTrue e X.env whole = (do let v ← whole; standAt e.pos; holding [v] (truthy v))) (hK : X.K = K := by rfl) :
    PT X e (fun σ H Q => ta σ H fun x H' => ∃ k, TruV K x H' k ∧ Q k H') := by
  subst hK
  exact pt_truth ha he
section
variable {K : PySem.W.Frag} {σ : L2.St} {H H' : Hp} {ta tb te tx tv : TE} {t u : TT} {x y z v : V} {r : R2}
theorem et_truth {i : Int} (h : Ev te σ H (.int i)) : EvT (fun σ H Q => te σ H fun x H' => ∃ k, TruV K x H' k ∧ Q k H') σ H (i != 0) := fun H1 e Q q => h H1 e _ fun H2 e2 => ⟨_, rfl, q H2 e2⟩
/-- a comprehension over a text and a tuple, side by side -/
theorem el_lcZ {s : Str} {b : Addr} {ys : List V} {ta : TA} {i1 i2 : Nat} {vs : List Nat} (v : Nat → V) (h : EvA ta σ H [.str s, .ref b]) (hb : SqT K H b ys) (hl : ys.length = s.cps.size) (hz : s.cps.size ≤ 40000)
    (hw : ∀ x y, wipe (((wipe σ vs).set i1 (some x)).set i2 (some y)) vs = wipe σ vs)
    (he : ∀ (i c : Nat) (y : V) H1, Ex H H1 → s.cps[i]? = some c → ys[i]? = some y → Ev te (((wipe σ vs).set i1 (some (.str ⟨#[c]⟩))).set i2 (some y)) H1 (v i)) :
    EvL (tLc (iZipS K ta) (gTup K 2 (gCons (gName i1) (gCons (gName i2) gNil))) tYes te vs) σ H (given s.cps.size (fun _ => true) v) := fun H0 e Q q => h H0 e _ fun H1 e1 => ⟨s, b, ys, rfl, ex_t (e.trans e1) hb, fun Dl hD =>
  ⟨fun i m H' => m = s.cps.size - i ∧ i ≤ s.cps.size ∧ Cw H1 (fun _ => true) v Dl i H', ⟨s.cps.size, by simp, Nat.zero_le _, hD, Ex.new hD, upd_same⟩, by
    rintro i m H' ⟨rfl, hi, p⟩
    have hb' : SqT K H' b ys := ex_t ((e.trans e1).trans p.2.1) hb
    by_cases hlt : i < s.cps.size
    · refine .inr ⟨⟨ys, s.cps[i], ys[i], hb', by simp [hlt], by simp [hl, hlt]⟩, Cw H1 (fun _ => true) v Dl (i + 1), fun H2 p' => ⟨s.cps.size - (i + 1), by omega, rfl, hlt, p'⟩, ?_⟩
      rintro x H2 ⟨T, c, y, rfl, hT, rfl, hc, hy⟩
      have hy' := hy ys hb'
      have e2 : Ex H' (upd H' T (.tup [.str ⟨#[c]⟩, y])) := Ex.new hT
      have p' : Cw H1 (fun _ => true) v Dl i (upd H' T (.tup [.str ⟨#[c]⟩, y])) := ⟨p.1, p.2.1.trans e2, e2 _ _ p.2.2⟩
      exact ⟨T, _, rfl, st_of upd_same, rfl, _, _, rfl, _, _, rfl, rfl, hw _ _, cw_turn p' (by omega) et_yes (fun _ => he i c y H1 (e.trans e1) hc hy')⟩
    · have e2 : i = s.cps.size := by omega
      subst e2
      exact .inl ⟨⟨ys, hb', hl, hl.symm⟩, q Dl H' (fresh_back e1 p.1) (e1.trans p.2.1) p.2.2⟩⟩⟩
end
def nineS : Str := "rwxrwxrwx"
def nineB : List Int := [256, 128, 64, 32, 16, 8, 4, 2, 1]
def signAt (n i : Nat) : Str := if (Builtin.bitAnd (n : Nat) (nineB.getD i 0) != 0) = true then ⟨#[nineS.cps.toList.getD i 0]⟩ else "-"
def shown (n : Nat) : Str := Txt.join "" ((List.range 9).map (signAt n))
def spStr (a : Ads) : Sp := fun vs H Q _ => ∃ (p : Addr) (n : Nat), vs = [.ref p] ∧ ModeAt a H p n ∧ n < 512 ∧ ∀ H', Ex H H' → Q (.str (shown n)) H'
theorem dash1 : ("-" : Str).length = 1 := by decide +kernel
theorem sign1 (n i : Nat) : (signAt n i).length = 1 := by
  unfold signAt
  split
  · rfl
  · exact dash1
theorem nine_size : nineS.cps.size = 9 := by decide +kernel
section
variable {P : Program} {w : World} {K : PySem.W.Frag} {mg : Str → Option Value} {base : Heap} {a : Ads}
theorem ok_Mode_str (T : Txt w K mg a) : FnOk P w K mg base CX0 1 a.f_ModeD_strD a.d_ModeD_strD ["self"] (spStr a) := by
  refine T.fn_ModeD_strD.ok sc_ModeD_strD (fun vs H Q E h => ?_) (fun cdv A outer s H vs Q E hr h => ?_)
  · obtain ⟨_, _, rfl, _⟩ := h
    rfl
  · obtain ⟨p, n, rfl, ⟨dx, hp⟩, hn, k⟩ := h
    refine ⟨_, (pss_one (ps_ret (pe_join pe_str (pe_lc (own := [("sign", 1), ("bit", 2)]) (g := gTup K 2 (gCons (gName 1) (gCons (gName 2) gNil))) rfl sc_ModeD_strD.nd (pi_zipS (by rfl) T.b_zip (pa_cons (pe_glob (v := .str "rwxrwxrwx") rfl T.mg_NINE_SIGNS.choose_spec ⟨_, rfl⟩) (pa_cons (pe_glob (v := .ref a.k_NINE_BITS) rfl T.mg_NINE_BITS rfl) pa_nil))) (blkOk_by (own := [("sign", 1), ("bit", 2)]) (N := n_ModeD_strD) (sc := defScope s_ModeD_strD) (by decide +kernel)) (fun _ _ _ _ _ => (pg_tup rfl (pgs_cons (pg_name (i := 1) sc_ModeD_strD.nd rfl (Or.inl rfl)) (pgs_cons (pg_name (i := 2) sc_ModeD_strD.nd rfl (Or.inl rfl)) pgs_nil)))) (fun _ _ _ _ _ => pts_nil) (fun _ _ _ _ _ => (pe_ifExp (pt_truthE (K := K) (pe_op op_and (pe_fldE (K := K) (pv 0) rfl) (pv 2)) (by intro _; rfl)) (pv 1) pe_str)))))), ?_⟩
    refine s_ret (v := .str (shown n)) (ev_join (ys := (List.range 9).map (signAt n)) ev_c (el_is (el_lcZ (K := K) (s := nineS) (b := a.k_NINE_BITS) (ys := nineB.map V.int) (fun i => V.str (signAt n i)) (ea_cons ev_c (ea_cons ev_c ea_nil)) (T.t_NINE_BITS H) (by decide +kernel) (by decide +kernel) (fun _ _ => rfl) (fun i c y H1 e hc hy => ?_)) ?_) ?_) fun H1 e1 => k H1 e1
    · rw [← Array.getElem?_toList] at hc
      rw [List.getElem?_map] at hy
      obtain ⟨b, hb, rfl⟩ := Option.map_eq_some_iff.mp hy
      refine ev_if (b := (Builtin.bitAnd (n : Nat) b != 0)) (et_truth (ev_op (ev_fld (ev_var rfl) (e _ _ hp) T.c_Mode T.n_number_Mode (by simp [List.lookup])) (ev_var rfl) rv_I0)) (fun h => ev_is (ev_var rfl) ?_) (fun h => ev_is ev_c ?_)
      · unfold signAt
        rw [show nineB.getD i 0 = b by simp [List.getD, hb], if_pos h, show nineS.cps.toList.getD i 0 = c by simp [List.getD, hc]]
      · unfold signAt
        rw [show nineB.getD i 0 = b by simp [List.getD, hb], if_neg (by rw [h]; decide)]
    · rw [given_all, nine_size, List.map_map]
      rfl
    · have : ∀ l : List Nat, ((l.map (signAt n)).map (·.length)).sum = l.length := by
        intro l
        induction l with
        | nil => rfl
        | cons x l ih => simp only [List.map_cons, List.sum_cons, List.length_cons, ih, sign1]; omega
      rw [this, List.length_map, List.length_range, show ("" : Str).length = 0 from rfl]
      decide
end
/-! str of an own instance -/
section
variable {X : Cx} {CX : CXT} {C g : Addr} {n : Nat} {sp : Sp} {E : XK} {fd : FuncData} {ps : List Str}
def rStrOwn (C : Addr) (sp : Sp) (E : XK) : List V → Hp → VK → Prop := fun xs H Q => ∃ a dx fs, xs = [V.ref a] ∧ H a = some (.ins C dx fs) ∧ sp [.ref a] H (fun z H' => ∃ s, z = .str s ∧ Q z H') E
theorem call_strOwn (hs : PySem.W.findIn X.K (.ref C) "__str__" = some (some (.ref g))) (hf : PySem.W.isFn X.K (.ref g) = true) (F : FnR X.prog X.w X.K X.mg X.base CX n g sp) (hr : Room (n + 2) X.A) (hx : Passes CX X E) : CallR X (.type "str") (rStrOwn C sp E) := by
  intro pins s σ H xs us Q I r start
  obtain ⟨a, dx, fs, rfl, hsl, q⟩ := start
  obtain ⟨u, rfl, ru⟩ := r.one
  obtain rfl : u = Value.ref a := ru
  obtain ⟨ox, od, J, _⟩ := StX.insC_at (X := X) I (.inr ⟨dx, fs, hsl⟩)
  have low : Room (n + 1) X.A.in1 := Room.in1 hr
  have hr2 : Room n X.A.in1.in1 := low.in1
  refine PySem.W.kso_call hr2.units0 I.kIn J hs hf (wpAny_mono (wpAny_call (SlX.run_at (us := [.ref a]) (ws := [.ref a]) F hr2 I.env0.in1.in1 hx I (.cons rfl .nil) q)) (fun w s' z => ?_) fun _ _ x => x)
  obtain ⟨z', H', I', rz, s2, ei, qz⟩ := z
  subst ei
  obtain ⟨t, e⟩ := (show ∃ t, w = Value.str s2 t from rz)
  cases e
  exact ⟨.str s2, H', I', ⟨t, rfl⟩, qz⟩
end
end KD
set_option Elab.async false
set_option linter.all false
set_option maxRecDepth 100000
set_option maxHeartbeats 4000000
namespace KD
open PySem PySem.Spec PyProof.Rows L2 Evl
local macro_rules | `(tactic| walk_at "ev") => `(tactic| repeat' (first | exact ev_c | exact ev_var rfl | exact rv_I0 | refine' rv_I ?_ | refine' rv_eq ?_ | refine' rv_ne ?_ | refine' ev_op ?_ ?_ ?_ | exact ea_nil | refine' ea_cons ?_ ?_ | refine' et_test ?_ | refine' et_B ?_ | refine' et_not ?_ | refine' ev_notV ?_))

open PySem
/-! ### what a Mode says of itself -/
def uni (p : Nat) : Nat := 448 * (p / 4) + 56 * (p / 2 % 2) + 7 * (p % 2)
theorem uni_is : ∀ p : Nat, p < 8 → uni p < 512 := by
  have h : ((List.range 8).all fun (p : Nat) => decide (uni p < 512)) = true := by decide +kernel
  exact fun p hp => of_decide_eq_true (all_nat h p hp)
theorem and_lt : ∀ p : Nat, p < 8 → (Builtin.bitAnd (p : Int) 4).natAbs < 2 ^ 64 ∧ (Builtin.bitAnd (p : Int) 2).natAbs < 2 ^ 64 := by
  have h : ((List.range 8).all fun (p : Nat) => decide ((Builtin.bitAnd (p : Int) 4).natAbs < 2 ^ 64 ∧ (Builtin.bitAnd (p : Int) 2).natAbs < 2 ^ 64)) = true := by decide +kernel
  exact fun p hp => of_decide_eq_true (all_nat h p hp)
def spBits7 : Sp := fun vs H Q _ => ∃ p : Nat, vs = [.int p, .int 7] ∧ p < 8 ∧ ∀ H', Ex H H' → Q (.int (uni p : Nat)) H'
theorem bits7_is : ∀ p : Nat, p < 8 → Builtin.bitOr (Builtin.bitOr (Builtin.bitAnd (p : Int) 4 * 2 ^ (4 : Int).toNat) (Builtin.bitAnd (p : Int) 2 * 2 ^ (2 : Int).toNat)) (Builtin.bitAnd (p : Int) 1) * 7 = (uni p : Nat) := by
  have h : ((List.range 8).all fun (p : Nat) => decide (Builtin.bitOr (Builtin.bitOr (Builtin.bitAnd (p : Int) 4 * 2 ^ (4 : Int).toNat) (Builtin.bitAnd (p : Int) 2 * 2 ^ (2 : Int).toNat)) (Builtin.bitAnd (p : Int) 1) * 7 = (uni p : Nat))) = true := by decide +kernel
  exact fun p hp => of_decide_eq_true (all_nat h p hp)
def spUni (a : Ads) : Sp := fun vs H Q _ => ∃ p : Nat, vs = [.int p] ∧ p < 8 ∧ ∀ q H', H q = none → Ex H H' → ModeAt a H' q (uni p) → Q (.ref q) H'
def digV (n : Nat) : List V := [.int (n / 64 : Nat), .int (n / 8 % 8 : Nat), .int (n % 8 : Nat)]
def spDig (a : Ads) : Sp := fun vs H Q _ => ∃ (p : Addr) (n : Nat), vs = [.ref p] ∧ ModeAt a H p n ∧ n < 512 ∧ ∀ t H', H t = none → Ex H H' → H' t = some (.tup (digV n)) → Q (.ref t) H'
theorem dig_is : ∀ n : Nat, n < 512 → (n : Int) / 2 ^ (6 : Int).toNat = (n / 64 : Nat) ∧ Builtin.bitAnd ((n : Int) / 2 ^ (3 : Int).toNat) 7 = (n / 8 % 8 : Nat) ∧ Builtin.bitAnd (n : Int) 7 = (n % 8 : Nat) := by
  have h : ((List.range 512).all fun (n : Nat) => decide ((n : Int) / 2 ^ (6 : Int).toNat = (n / 64 : Nat) ∧ Builtin.bitAnd ((n : Int) / 2 ^ (3 : Int).toNat) 7 = (n / 8 % 8 : Nat) ∧ Builtin.bitAnd (n : Int) 7 = (n % 8 : Nat))) = true := by decide +kernel
  exact fun n hn => of_decide_eq_true (all_nat h n hn)
def ones (n : Nat) : Nat := ((List.range 9).filter fun i => Builtin.bitAnd (n : Nat) (nineB.getD i 0) != 0).length
def spLen (a : Ads) : Sp := fun vs H Q _ => ∃ (p : Addr) (n : Nat), vs = [.ref p] ∧ ModeAt a H p n ∧ n < 512 ∧ ∀ H', Ex H H' → Q (.int (ones n : Nat)) H'
def spBool (a : Ads) : Sp := fun vs H Q _ => ∃ (p : Addr) (n : Nat), vs = [.ref p] ∧ ModeAt a H p n ∧ ∀ H', Ex H H' → Q (.bl (((n : Nat) : Int) != 0)) H'
def repS (n : Nat) : Str := ((Str.empty ++ ("Mode(0o" : Str)) ++ octS n) ++ (")" : Str)
def spRepr (a : Ads) : Sp := fun vs H Q _ => ∃ (p : Addr) (n : Nat), vs = [.ref p] ∧ ModeAt a H p n ∧ n < 512 ∧ ∀ H', Ex H H' → Q (.str (repS n)) H'
theorem rep_len : ∀ n : Nat, n < 512 → (Str.empty ++ ("Mode(0o" : Str)).length ≤ 100 ∧ ((Str.empty ++ ("Mode(0o" : Str)) ++ octS n).length ≤ 100 ∧ (repS n).length ≤ 100 := by
  have h : ((List.range 512).all fun (n : Nat) => decide ((Str.empty ++ ("Mode(0o" : Str)).length ≤ 100 ∧ ((Str.empty ++ ("Mode(0o" : Str)) ++ octS n).length ≤ 100 ∧ (repS n).length ≤ 100)) = true := by decide +kernel
  exact fun n hn => of_decide_eq_true (all_nat h n hn)
/-- a Mode compared with a Mode or with a value of another type -/
def EqTo (K : PySem.W.Frag) (a : Ads) (H : Hp) (n : Nat) (y : V) (b : Bool) : Prop := (∃ q m, y = .ref q ∧ ModeAt a H q m ∧ b = decide (V.int n = V.int m)) ∨ (b = false ∧ ∃ t : String, TyE K H y t ∧ PySem.W.kitOne K (.type t) (.ref a.f_Mode) = some false ∧ PySem.W.notFirst K a.f_Mode (.type t) = true)
def spEqB (K : PySem.W.Frag) (a : Ads) : Sp := fun vs H Q _ => ∃ (p : Addr) (n : Nat) (y : V) (b : Bool), vs = [.ref p, y] ∧ ModeAt a H p n ∧ EqTo K a H n y b ∧ ∀ H', Ex H H' → Q (.bl b) H'
theorem EqTo.mono {K : PySem.W.Frag} {a : Ads} {H H' : Hp} {n : Nat} {y : V} {b : Bool} (h : EqTo K a H n y b) (e : Ex H H') : EqTo K a H' n y b := h.imp (fun ⟨q, m, r, mq, eb⟩ => ⟨q, m, r, mq.mono e, eb⟩) fun ⟨eb, t, ty, k1, k2⟩ => ⟨eb, t, fun H1 e1 => ty H1 (e.trans e1), k1, k2⟩
def partN : Nat → Str
  | 0 => "owner"
  | 1 => "group"
  | _ => "others"
def Dig (v : V) (d : Nat) : Prop := v = .int (d : Nat) ∧ d < 8
def spOf (K : PySem.W.Frag) (a : Ads) : Sp := fun vs H Q E => ∃ x y z : V, vs = [x, y, z] ∧ ((∃ d1 d2 d3 : Nat, Dig x d1 ∧ Dig y d2 ∧ Dig z d3 ∧ ∀ q H', H q = none → Ex H H' → ModeAt a H' q (64 * d1 + 8 * d2 + d3) → Q (.ref q) H') ∨ ∃ i : Nat, i < 3 ∧ (∀ (j : Nat) v, j < i → [x, y, z][j]? = some v → ∃ d, Dig v d) ∧ (∀ v, [x, y, z][i]? = some v → BadW K H v 7) ∧ Told a E H (partN i))
section
variable {K : PySem.W.Frag} {a : Ads} {σ : L2.St} {H : Hp} {te tm ty u1 u2 u3 : TE} {E : XK} {n : Nat} {D : Ends} {tz tu : TS} {p : Addr} {y : V} {b : Bool}
theorem em_uniform (h : Ev te σ H (.int (n : Nat))) (hn : n < 8) : EvM a (tSMeth a.f_Mode (fun vs H Q E => spUni a (vs ++ []) H Q E) E (tC (.ref a.f_Mode)) (tCons te tNil)) σ H (uni n) := fun H1 e Q q =>
  ⟨rfl, h H1 e _ fun H2 e2 => ⟨n, rfl, hn, fun p H3 hp e3 m => q p H3 (fresh_back e2 hp) (e2.trans e3) m⟩⟩
theorem ev_lenN {xs : List V} (h : EvL te σ H xs) : Ev (tCB (fun xs H Q => ∃ p ys, xs = [V.ref p] ∧ (SqL K H p ys ∨ SqT K H p ys) ∧ Q (.int (ys.length : Nat)) H) (tCons te tNil)) σ H (.int (xs.length : Nat)) := fun H1 e1 Q1 q1 =>
  h H1 e1 _ fun l H2 _ e2 h2 => ⟨l, xs, rfl, .inl (sq_of h2), q1 H2 e2⟩
theorem ev_oct (h : Ev te σ H (.int (n : Nat))) (hn : n < 512) : Ev (tOct te) σ H (.str (octS n)) := fun H1 e1 Q q => h H1 e1 _ fun H2 e2 => ⟨n, rfl, hn, q H2 e2⟩
theorem q_forT3 {g : TG} {xs1 xs2 xs3 : List V} (h1 : EvU u1 σ H xs1) (h2 : EvU u2 σ H xs2) (h3 : EvU u3 σ H xs3) (k : ∀ t1 t2 t3 t H1, Ex H H1 → H1 t1 = some (.tup xs1) → H1 t2 = some (.tup xs2) → H1 t3 = some (.tup xs3) → H1 t = some (.tup [.ref t1, .ref t2, .ref t3]) → tSeq (tFor (iTup K (tC (.ref t))) g tu) tz D σ H1) :
    tSeq (tFor (iTup K (tTup (tCons u1 (tCons u2 (tCons u3 tNil))))) g tu) tz D σ H :=
  h1 H (Ex.refl H) _ fun t1 H1 _ e1 q1 => h2 H1 e1 _ fun t2 H2 _ e2 q2 => h3 H2 (e1.trans e2) _ fun t3 H3 _ e3 q3 => ⟨by show 3 ≤ sizeLine; decide, fun t ht => by
    have el := Ex.new ht (o := .tup [.ref t1, .ref t2, .ref t3])
    exact k t1 t2 t3 t _ (((e1.trans e2).trans e3).trans el) (el _ _ (e3 _ _ (e2 _ _ q1))) (el _ _ (e3 _ _ q2)) (el _ _ q3) upd_same⟩
theorem ev_eqB (h1 : Ev te σ H (.ref p)) (mp : ModeAt a H p n) (h2 : Ev ty σ H y) (h : EqTo K a H n y b) (c : ∀ H1, Ex H H1 → ∀ q m, ModeAt a H1 q m → TyX K H1 (.ref q) (.ref a.f_Mode)) (nf : PySem.W.notFirst K a.f_Mode (.ref a.f_Mode) = true) : Ev (tOp (rOwnB K a.f_Mode (fun vs H Q E => spEqB K a (vs ++ []) H Q E) E) te ty) σ H (.bl b) := fun H1 e Q k =>
  h1 H1 e _ fun H2 e2 => h2 H2 (e.trans e2) _ fun H3 e3 => by
    have e03 := (e.trans e2).trans e3
    have m3 := mp.mono e03
    have q3 := h.mono e03
    obtain ⟨dx, ho⟩ := id m3
    have want : spEqB K a ([.ref p, y] ++ []) H3 Q E := ⟨p, n, y, b, rfl, m3, q3, fun H4 e4 => k H4 ((e2.trans e3).trans e4)⟩
    rcases id q3 with ⟨q, m, rfl, mq, _⟩ | ⟨_, t, ty, _, nt⟩
    · exact ⟨p, dx, _, _, rfl, ho, c H3 e03 q m mq, nf, want⟩
    · exact ⟨p, dx, _, _, rfl, ho, ty H3 (Ex.refl _), nt, want⟩
end
section
variable {P : Program} {w : World} {K : PySem.W.Frag} {mg : Str → Option Value} {base : Heap} {a : Ads}
theorem ok_bits7 (T : Txt w K mg a) : FnOk P w K mg base CX0 1 a.f_bits_of a.d_bits_of ["pattern", "weight"] spBits7 := by
  refine T.fn_bits_of.ok sc_bits_of (fun vs H Q E h => ?_) (fun cdv A outer s H vs Q E hr h => ?_)
  · obtain ⟨_, rfl, _⟩ := h
    rfl
  · obtain ⟨n, rfl, hn, k⟩ := h
    refine ⟨_, (pss_one (ps_ret (pe_op op_mul (pe_op op_or (pe_op op_or (pe_op op_shl (pe_op op_and (pv 0) pe_int) pe_int) (pe_op op_shl (pe_op op_and (pv 0) pe_int) pe_int)) (pe_op op_and (pv 0) pe_int)) (pv 1)))), ?_⟩
    refine s_ret (v := .int (uni n : Nat)) (ev_is (by walk_at "ev"; exact ⟨by decide, by decide, (and_lt n hn).1⟩; exact ⟨by decide, by decide, (and_lt n hn).2⟩; exact Or.inr ⟨by omega, by omega⟩) (congrArg V.int (bits7_is n hn))) fun H2 e2 => ?_
    exact k H2 e2
theorem ok_uniform (T : Txt w K mg a) : FnOk P w K mg base CX0 7 a.f_Mode_uniform a.d_Mode_uniform ["pattern"] (spUni a) := by
  have G_Mode_init : FnOk P w K mg base CX0 5 _ _ _ _ := ok_Mode_init T
  have G_bits_of : FnOk P w K mg base CX0 6 _ _ _ _ := (ok_bits7 T).mono (by decide)
  refine T.fn_Mode_uniform.ok sc_Mode_uniform (fun vs H Q E h => ?_) (fun cdv A outer s H vs Q E hr h => ?_)
  · obtain ⟨_, rfl, _⟩ := h
    rfl
  · obtain ⟨p, rfl, hp, k⟩ := h
    have hrm : Room 6 _ := hr
    have hrc : Room 6 _ := hr
    refine ⟨_, (pss_one (ps_ret (pe_make T.mk_Mode G_Mode_init hrm rfl T.mg_Mode (bd_ModeD_initD T) .nil pass0 (pa_cons (pe_call G_bits_of hrc rfl T.mg_bits_of T.fn_bits_of.kp (bd_bits_of T) .nil pass0 (pa_cons (pv 0) (pa_cons pe_int pa_nil))) pa_nil)))), ?_⟩
    exact em_mode (a := a) (n := uni p) (ev_call (vs := [.int p, .int 7]) (by walk_at "ev") fun H1 e1 Q1 q1 E1 => ⟨p, rfl, hp, q1⟩) (uni_is p hp) H (Ex.refl H) _ fun q H1 hq e1 m => k q H1 hq e1 m
theorem ok_digits (T : Txt w K mg a) : FnOk P w K mg base CX0 1 a.f_Mode_digits a.d_Mode_digits ["self"] (spDig a) := by
  refine T.fn_Mode_digits.ok sc_Mode_digits (fun vs H Q E h => ?_) (fun cdv A outer s H vs Q E hr h => ?_)
  · obtain ⟨_, _, rfl, _⟩ := h
    rfl
  · obtain ⟨p, n, rfl, ⟨dx, ho⟩, hn, k⟩ := h
    obtain ⟨d1, d2, d3⟩ := dig_is n hn
    refine ⟨_, (pss_one (ps_ret (pe_tup (pa_cons (pe_op op_shr (pe_fld (pv 0) rfl) pe_int) (pa_cons (pe_op op_and (pe_op op_shr (pe_fld (pv 0) rfl) pe_int) pe_int) (pa_cons (pe_op op_and (pe_fld (pv 0) rfl) pe_int) pa_nil)))))), ?_⟩
    have fld : ∀ {H1}, Ex H H1 → Ev (tFld K (tVar 0) "_number") [some (.ref p)] H1 (.int (n : Nat)) := fun e => ev_fld (ev_var rfl) (e _ _ ho) T.c_Mode T.n_number_Mode (by simp [List.lookup])
    exact s_retU (xs := digV n) (eu_tup (ea_cons (ev_is (ev_op (fld (Ex.refl _)) ev_c (rv_I (by omega))) (congrArg V.int d1)) (ea_cons (ev_is (ev_op (ev_op (fld (Ex.refl _)) ev_c (rv_I (by omega))) ev_c rv_I0) (congrArg V.int d2)) (ea_cons (ev_is (ev_op (fld (Ex.refl _)) ev_c rv_I0) (congrArg V.int d3)) ea_nil))) (by show 3 ≤ 100000; decide)) fun t H1 ht e1 h1 => k t H1 ht e1 h1
theorem ok_len (T : Txt w K mg a) : FnOk P w K mg base CX0 1 a.f_ModeD_lenD a.d_ModeD_lenD ["self"] (spLen a) := by
  refine T.fn_ModeD_lenD.ok sc_ModeD_lenD (fun vs H Q E h => ?_) (fun cdv A outer s H vs Q E hr h => ?_)
  · obtain ⟨_, _, rfl, _⟩ := h
    rfl
  · obtain ⟨p, n, rfl, ⟨dx, ho⟩, hn, k⟩ := h
    refine ⟨_, (pss_one (ps_ret (pe_callB call_len_seq (by rfl) T.b_len PySem.boot_len (pa_cons (pe_lc (own := [("bit", 1)]) (g := gName 1) rfl sc_ModeD_lenD.nd (pi_tup (pe_glob (v := .ref a.k_NINE_BITS) rfl T.mg_NINE_BITS rfl)) (blkOk_by (own := [("bit", 1)]) (N := n_ModeD_lenD) (sc := defScope s_ModeD_lenD) (by decide +kernel)) (fun _ _ _ _ _ => (pg_name (i := 1) sc_ModeD_lenD.nd rfl (Or.inl rfl))) (fun _ _ _ _ _ => (pts_one (pt_truthE (K := K) (pe_op op_and (pe_fldE (K := K) (pv 0) rfl) (pv 1)) (by intro _; rfl)))) (fun _ _ _ _ _ => (pv 1))) pa_nil)))), ?_⟩
    refine s_ret (v := .int (ones n : Nat)) (ev_is (ev_lenN (K := K) (el_lcT (K := K) (a := a.k_NINE_BITS) (xs := nineB.map V.int) (σ' := fun x => [some (.ref p), some x]) (fun i => Builtin.bitAnd (n : Nat) (nineB.getD i 0) != 0) (fun i => .int (nineB.getD i 0)) ev_c (T.t_NINE_BITS H) (by decide) (fun i x H2 Q2 e2 hx q2 => q2) (fun _ => rfl) (fun i x H2 e2 hx => ?_) (fun i x H2 e2 hx _ => ?_))) ?_) fun H1 e1 => k H1 e1
    · rw [List.getElem?_map] at hx
      obtain ⟨b, hb, rfl⟩ := Option.map_eq_some_iff.mp hx
      rw [show nineB.getD i 0 = b by simp [List.getD, hb]]
      exact et_truth (ev_op (ev_fld (ev_var rfl) (e2 _ _ ho) T.c_Mode T.n_number_Mode (by simp [List.lookup])) (ev_var rfl) rv_I0)
    · rw [List.getElem?_map] at hx
      obtain ⟨b, hb, rfl⟩ := Option.map_eq_some_iff.mp hx
      rw [show nineB.getD i 0 = b by simp [List.getD, hb]]
      exact ev_var rfl
    · have e : (given (nineB.map V.int).length (fun i => Builtin.bitAnd (n : Nat) (nineB.getD i 0) != 0) fun i => V.int (nineB.getD i 0)).length = ones n := by
        unfold given ones
        rw [List.length_map]
        rfl
      exact congrArg (fun m : Nat => V.int (m : Int)) e
theorem ok_bool (T : Txt w K mg a) : FnOk P w K mg base CX0 1 a.f_ModeD_boolD a.d_ModeD_boolD ["self"] (spBool a) := by
  refine T.fn_ModeD_boolD.ok sc_ModeD_boolD (fun vs H Q E h => ?_) (fun cdv A outer s H vs Q E hr h => ?_)
  · obtain ⟨_, _, rfl, _⟩ := h
    rfl
  · obtain ⟨p, n, rfl, ⟨dx, ho⟩, k⟩ := h
    refine ⟨_, (pss_one (ps_ret (pe_callTy call_bool1 (by rfl) T.b_bool (by decide +kernel) (pa_cons (pe_fld (pv 0) rfl) pa_nil)))), ?_⟩
    exact s_ret (v := .bl (((n : Nat) : Int) != 0)) (fun H1 e1 Q1 q1 => (ev_fld (ev_var rfl) ho T.c_Mode T.n_number_Mode (by simp [List.lookup]) : Ev _ _ H (.int (n : Nat))) H1 e1 _ fun H2 e2 => .inl ⟨_, rfl, q1 H2 e2⟩) fun H1 e1 => k H1 e1
theorem ok_eq (T : Txt w K mg a) : FnOk P w K mg base CX0 1 a.f_ModeD_eqD a.d_ModeD_eqD ["self", "other"] (spEqB K a) := by
  refine T.fn_ModeD_eqD.ok sc_ModeD_eqD (fun vs H Q E h => ?_) (fun cdv A outer s H vs Q E hr h => ?_)
  · obtain ⟨_, _, _, _, rfl, _⟩ := h
    rfl
  · obtain ⟨p, n, y, b, rfl, mp, eq, k⟩ := h
    refine ⟨_, (pss_one (ps_ret (pe_and (pe_callB call_isi (by rfl) T.b_isinstance PyProof.Rows.boot_isinstance (pa_cons (pv 1) (pa_cons (pe_glob (v := .ref a.f_Mode) rfl T.mg_Mode rfl) pa_nil))) (pe_one (pe_cmpR op_eq (pe_fld (pv 0) rfl) (pe_fld (pv 1) rfl) (nomark _)))))), ?_⟩
    obtain ⟨dx, hp⟩ := id mp
    rcases eq with ⟨q, m, rfl, mq, rfl⟩ | ⟨rfl, t, ty, kt, _⟩
    · obtain ⟨dy, hq⟩ := id mq
      exact s_ret (v := .bl (decide (V.int n = V.int m))) (ev_is (ev_andV (a := true) (ev_isi (ea_cons (ev_var rfl) (ea_cons ev_c ea_nil)) (.own _) (fun H' e' => tyx_mode T (mq.mono e')) T.is_Mode) fun _ => ev_op (ev_fld (ev_var rfl) hp T.c_Mode T.n_number_Mode (by simp [List.lookup]; rfl)) (ev_fld (ev_var rfl) hq T.c_Mode T.n_number_Mode (by simp [List.lookup]; rfl)) (rv_eq rfl)) (by rw [Bool.true_and])) fun H1 e1 => k H1 e1
    · exact s_ret (v := .bl false) (ev_is (ev_andV (a := false) (b := true) (ev_isi (ea_cons (ev_var rfl) (ea_cons ev_c ea_nil)) (.own _) ty kt) fun z => nomatch z) rfl) fun H1 e1 => k H1 e1
theorem ok_repr (T : Txt w K mg a) : FnOk P w K mg base CX0 1 a.f_ModeD_reprD a.d_ModeD_reprD ["self"] (spRepr a) := by
  refine T.fn_ModeD_reprD.ok sc_ModeD_reprD (fun vs H Q E h => ?_) (fun cdv A outer s H vs Q E hr h => ?_)
  · obtain ⟨_, _, rfl, _⟩ := h
    rfl
  · obtain ⟨p, n, rfl, ⟨dx, ho⟩, hn, k⟩ := h
    refine ⟨_, (pss_one (ps_ret (pe_joined (PJ.cons pe_str (PJ.cons (pe_fmt8 (pe_fld (pv 0) rfl)) (PJ.cons pe_str PJ.nil)))))), ?_⟩
    obtain ⟨l1, l2, l3⟩ := rep_len n hn
    have up : ∀ {m : Nat}, m ≤ 100 → m ≤ sizeLine := fun h => Nat.le_trans h (by decide)
    refine ⟨_, rfl, up l1, ?_⟩
    show tOct _ _ _ _
    exact (ev_oct (ev_fld (ev_var rfl) ho T.c_Mode T.n_number_Mode (by simp [List.lookup])) hn) H (Ex.refl H) _ fun H1 e1 => ⟨_, rfl, up l2, _, rfl, up l3, k H1 e1⟩
end
end KD
set_option Elab.async false
set_option linter.all false
set_option maxRecDepth 100000
set_option maxHeartbeats 4000000
namespace KD
open PySem PySem.Spec PyProof.Rows L2 Evl
local macro_rules | `(tactic| walk_at "ev") => `(tactic| repeat' (first | exact ev_c | exact ev_var rfl | exact rv_I0 | refine' rv_I ?_ | refine' rv_eq ?_ | refine' rv_ne ?_ | refine' ev_op ?_ ?_ ?_ | exact ea_nil | refine' ea_cons ?_ ?_ | refine' et_test ?_ | refine' et_B ?_ | refine' et_not ?_ | refine' ev_notV ?_))

open PySem
/-- the number of a new Mode is wrong -/
def spModeB (K : PySem.W.Frag) (a : Ads) : Sp := fun vs H Q E => ∃ (p dx : Addr) (x : V), vs = [.ref p, x] ∧ H p = some (.ins a.f_Mode dx []) ∧ BadW K H x 511 ∧ Told a E H "number"
theorem getN3 {x y z v : V} {i : Nat} (h : [x, y, z][i]? = some v) : i < 3 := by
  have := (List.getElem?_eq_some_iff.mp h).1
  exact this
section
variable {P : Program} {w : World} {K : PySem.W.Frag} {mg : Str → Option Value} {base : Heap} {a : Ads}
theorem ok_init_bad (T : Txt w K mg a) : FnOk P w K mg base (L2.CX P w) 5 a.f_ModeD_initD a.d_ModeD_initD ["self", "number"] (spModeB K a) := by
  have G_is_whole_to : FnOk P w K mg base CX0 4 _ _ _ _ := (ok_is_whole2 T).mono (by decide)
  have G_BadMode_init : FnOk P w K mg base CX0 3 _ _ _ _ := (ok_BadMode_init T).mono (by decide)
  refine T.fn_ModeD_initD.okX sc_ModeD_initD (fun vs H Q E h => ?_) (fun cdv A outer s H vs Q E hr h => ?_)
  · obtain ⟨_, _, _, rfl, _⟩ := h
    rfl
  · obtain ⟨p, dx, x, rfl, hp, bad, told⟩ := h
    have hrc : Room 4 _ := hr
    have hrm : Room (3 + 1) _ := hr
    obtain ⟨tm, hm⟩ := T.k_Mode_MOST
    refine ⟨_, (pss_cons (ps_if (pt_not (pt_val (pe_call G_is_whole_to hrc rfl T.mg_is_whole_to T.fn_is_whole_to.kp (bd_is_whole_to T) .nil pass0 (pa_cons (pv 1) (pa_cons (ClX.pe_cval (pe_glob (v := .ref a.f_Mode) rfl T.mg_Mode rfl)) pa_nil))))) (pss_one (ps_raise rfl (takes_of rfl rfl rfl rfl) (pmk_oex T.ox_BadMode T.ic_BadMode T.it_BadMode G_BadMode_init hrm (bd_BadModeD_initD T) .nil pass0 rfl T.mg_BadMode (pa_cons pe_str pa_nil)))) pss_nil)
    (pss_one (ps_fld (pv 0) (pv 1) rfl))), ?_⟩
    refine q_when (b := true) (et_is (et_not (a := false) (et_B (ev_call (sp := spW2 K) (dvs := []) (vs := [x, .int 511]) (ea_cons (ev_var (i := 1) rfl) (ea_cons (ev_cval ev_c T.r_Mode hm) ea_nil)) fun H1 e Q q E => ⟨x, 511, rfl, bad.mono e, q⟩))) rfl) (fun _ H1 e1 => ?_) (fun z => nomatch z)
    exact ⟨by show 1 ≤ 1000; decide, raise_told (told.back e1)⟩
theorem ok_of (T : Txt w K mg a) : FnOk P w K mg base (L2.CX P w) 7 a.f_Mode_of a.d_Mode_of ["owner", "group", "others"] (spOf K a) := by
  have G_is_whole_to : FnOk P w K mg base CX0 6 _ _ _ _ := (FnOk.either (ok_is_whole_to T) (ok_is_whole2 T)).mono (by decide)
  have G_BadMode_init : FnOk P w K mg base CX0 5 _ _ _ _ := (ok_BadMode_init T).mono (by decide)
  have G_Mode_init : FnOk P w K mg base CX0 5 _ _ _ _ := ok_Mode_init T
  refine T.fn_Mode_of.okX sc_Mode_of (fun vs H Q E h => ?_) (fun cdv A outer s H vs Q E hr h => ?_)
  · obtain ⟨_, _, _, rfl, _⟩ := h
    rfl
  · obtain ⟨x, y, z, rfl, h⟩ := h
    have hrc : Room 6 _ := hr
    have hrm : Room (5 + 1) _ := hr
    refine ⟨_, (pss_cons (ps_for (passes_of rfl) rfl (pi_tup (pe_tup (pa_cons (pe_tup (pa_cons pe_str (pa_cons (pv 0) pa_nil))) (pa_cons (pe_tup (pa_cons pe_str (pa_cons (pv 1) pa_nil))) (pa_cons (pe_tup (pa_cons pe_str (pa_cons (pv 2) pa_nil))) pa_nil))))) (pg_tup rfl (pgs_cons (pg_name (i := 3) sc_Mode_of.nd rfl (Or.inl rfl)) (pgs_cons (pg_name (i := 4) sc_Mode_of.nd rfl (Or.inl rfl)) pgs_nil))) (pss_one (ps_if (pt_not (pt_val (pe_call G_is_whole_to hrc rfl T.mg_is_whole_to T.fn_is_whole_to.kp (bd_is_whole_to T) .nil pass0 (pa_cons (pv 4) (pa_cons pe_int pa_nil))))) (pss_one (ps_raise rfl (takes_of rfl rfl rfl rfl) (pmk_oex T.ox_BadMode T.ic_BadMode T.it_BadMode G_BadMode_init hrm (bd_BadModeD_initD T) .nil pass0 rfl T.mg_BadMode (pa_cons (pv 3) pa_nil)))) pss_nil)))
    (pss_one (ps_ret (pe_make T.mk_Mode G_Mode_init hrm rfl T.mg_Mode (bd_ModeD_initD T) .nil pass0 (pa_cons (pe_op op_add (pe_op op_add (pe_op op_mul (pv 0) pe_int) (pe_op op_mul (pv 1) pe_int)) (pv 2)) pa_nil))))), ?_⟩
    refine q_forT3 (K := K) (eu_tup (vs := [.str "owner", x]) (ea_cons ev_c (ea_cons (ev_var rfl) ea_nil)) (by show 2 ≤ 100000; decide)) (eu_tup (vs := [.str "group", y]) (ea_cons ev_c (ea_cons (ev_var rfl) ea_nil)) (by show 2 ≤ 100000; decide)) (eu_tup (vs := [.str "others", z]) (ea_cons ev_c (ea_cons (ev_var rfl) ea_nil)) (by show 2 ≤ 100000; decide)) fun t1 t2 t3 t H1 e1 q1 q2 q3 qt => ?_
    have tt : ∀ i v, [V.ref t1, .ref t2, .ref t3][i]? = some v → ∃ ti d, v = .ref ti ∧ [x, y, z][i]? = some d ∧ H1 ti = some (.tup [.str (partN i), d]) := fun i v hv => by
      match i, hv with
      | 0, hv => cases hv; exact ⟨_, _, rfl, rfl, q1⟩
      | 1, hv => cases hv; exact ⟨_, _, rfl, rfl, q2⟩
      | 2, hv => cases hv; exact ⟨_, _, rfl, rfl, q3⟩
    rcases h with ⟨d1, d2, d3, ⟨rfl, l1⟩, ⟨rfl, l2⟩, ⟨rfl, l3⟩, k⟩ | ⟨ib, hi, good, bad, told⟩
    · refine q_forT (K := K) (xs := [V.ref t1, .ref t2, .ref t3]) ev_c (st_of qt) (fun i σ' H' => ∃ o3 o4, σ' = [some (.int (d1 : Nat)), some (.int (d2 : Nat)), some (.int (d3 : Nat)), o3, o4] ∧ Ex H1 H') (fun H2 e2 => ⟨_, _, rfl, e2⟩) (fun i σ' H' _ q => by
        obtain ⟨_, _, _, e⟩ := q
        exact st_of (e _ _ qt)) (fun i v σ' H2 hv q => ?_) (fun σ' H2 q => ?_)
      · obtain ⟨o3, o4, rfl, e2⟩ := q
        obtain ⟨ti, d, rfl, hd, ht⟩ := tt i v hv
        have dg : ∃ n : Nat, d = .int (n : Nat) ∧ n < 8 := by
          match i, hd with
          | 0, hd => cases hd; exact ⟨_, rfl, l1⟩
          | 1, hd => cases hd; exact ⟨_, rfl, l2⟩
          | 2, hd => cases hd; exact ⟨_, rfl, l3⟩
        obtain ⟨n, rfl, hn⟩ := dg
        refine ⟨ti, _, rfl, st_of (e2 _ _ ht), rfl, _, _, rfl, _, _, rfl, rfl, ?_⟩
        refine s_when (b := false) (et_not (a := true) (et_B (ev_call (sp := fun vs H Q E => spTrue2 vs H Q E ∨ spW2 K vs H Q E) (dvs := []) (vs := [.int (n : Nat), .int 7]) (ea_cons (ev_var rfl) (ea_cons ev_c ea_nil)) fun H3 e Q q E => .inl ⟨n, 7, rfl, by omega, by omega, q⟩))) (fun z => nomatch z) fun _ H3 e3 => ?_
        exact ⟨_, _, rfl, e2.trans e3⟩
      · obtain ⟨o3, o4, rfl, e2⟩ := q
        exact em_mode (a := a) (n := 64 * d1 + 8 * d2 + d3) (ev_is (ev_op (ev_op (ev_op (ev_var rfl) ev_c (rv_I (.inl ⟨by omega, by omega⟩))) (ev_op (ev_var rfl) ev_c (rv_I (.inl ⟨by omega, by omega⟩))) rv_I0) (ev_var rfl) rv_I0) (congrArg V.int (by omega))) (by omega) H2 (Ex.refl _) _ fun q H3 hq e3 m => k q H3 (fresh_back (e1.trans e2) hq) ((e1.trans e2).trans e3) m
    · refine q_forT (K := K) (xs := [V.ref t1, .ref t2, .ref t3]) ev_c (st_of qt) (fun i σ' H' => i ≤ ib ∧ ∃ o3 o4, σ' = [some x, some y, some z, o3, o4] ∧ Ex H1 H') (fun H2 e2 => ⟨Nat.zero_le _, _, _, rfl, e2⟩) (fun i σ' H' _ q => by
        obtain ⟨_, _, _, _, e⟩ := q
        exact st_of (e _ _ qt)) (fun i v σ' H2 hv q => ?_) (fun σ' H2 q => ?_)
      · obtain ⟨ile, o3, o4, rfl, e2⟩ := q
        obtain ⟨ti, d, rfl, hd, ht⟩ := tt i v hv
        refine ⟨ti, _, rfl, st_of (e2 _ _ ht), rfl, _, _, rfl, _, _, rfl, rfl, ?_⟩
        rcases Nat.lt_or_ge i ib with lt | ge
        · obtain ⟨n, rfl, hn⟩ := good i d lt hd
          refine s_when (b := false) (et_not (a := true) (et_B (ev_call (sp := fun vs H Q E => spTrue2 vs H Q E ∨ spW2 K vs H Q E) (dvs := []) (vs := [.int (n : Nat), .int 7]) (ea_cons (ev_var rfl) (ea_cons ev_c ea_nil)) fun H3 e Q q E => .inl ⟨n, 7, rfl, by omega, by omega, q⟩))) (fun z => nomatch z) fun _ H3 e3 => ?_
          exact ⟨lt, _, _, rfl, e2.trans e3⟩
        · obtain rfl : i = ib := Nat.le_antisymm ile ge
          refine s_when (b := true) (et_is (et_not (a := false) (et_B (ev_call (sp := fun vs H Q E => spTrue2 vs H Q E ∨ spW2 K vs H Q E) (dvs := []) (vs := [d, .int 7]) (ea_cons (ev_var rfl) (ea_cons ev_c ea_nil)) fun H3 e Q q E => .inr ⟨d, 7, rfl, (bad d hd).mono ((e1.trans e2).trans e), q⟩))) rfl) (fun _ H3 e3 => ?_) fun z => nomatch z
          exact ⟨_, rfl, by show 1 ≤ 1000; decide, raise_told (told.back ((e1.trans e2).trans e3))⟩
      · obtain ⟨ile, _⟩ := q
        exact absurd (Nat.lt_of_le_of_lt ile hi) (Nat.lt_irrefl _)
end
end KD
set_option Elab.async false
set_option linter.all false
set_option maxRecDepth 100000
set_option maxHeartbeats 4000000
namespace KD
open PySem PySem.Spec PyProof.Rows L2 Evl
local macro_rules | `(tactic| walk_at "ev") => `(tactic| repeat' (first | exact ev_c | exact ev_var rfl | exact rv_I0 | refine' rv_I ?_ | refine' rv_eq ?_ | refine' rv_ne ?_ | refine' ev_op ?_ ?_ ?_ | exact ea_nil | refine' ea_cons ?_ ?_ | refine' et_test ?_ | refine' et_B ?_ | refine' et_not ?_ | refine' ev_notV ?_))

open PySem LamX
/-- all stays but the bag and the tables -/
def StP (p : Addr) (H H' : Hp) : Prop := ∀ b o, H b = some o → b ≠ p → (∀ ps, o ≠ .tbl ps) → H' b = some o
theorem StP.of {p : Addr} {H H' : Hp} (e : Ex H H') : StP p H H' := fun b o h _ _ => e b o h
theorem StP.ofB {p : Addr} {H H' : Hp} (e : ExB p H H') : StP p H H' := fun b o h n _ => e b o h n
theorem StP.ofN {p : Addr} {H H' : Hp} (e : ExtN H H') : StP p H H' := fun b o h _ t => e b o h t
theorem StP.trans {p : Addr} {H H1 H2 : Hp} (a : StP p H H1) (b : StP p H1 H2) : StP p H H2 := fun c o h n t => b c o (a c o h n t) n t
/-- no whole number from 0 to m, for as long as only the bag changes -/
def BadO (K : PySem.W.Frag) (p : Addr) (H : Hp) (x : V) (m : Int) : Prop := (∃ (t : String) (b1 b2 : Bool), (∀ H1, StP p H H1 → TyX K H1 x (.type t)) ∧ kitB t "int" = some b1 ∧ kitB t "bool" = some b2 ∧ (b1 && !b2) = false) ∨ ∃ i : Int, x = .int i ∧ (i < 0 ∨ m < i)
section
variable {K : PySem.W.Frag} {a : Ads} {σ : L2.St} {H H' : Hp} {te t1 v1 : TE} {ta : TA} {E : XK} {n : Nat} {p d : Addr} {x y : V} {b : Bool} {m : Int} {xs : List V} {kvs : List (Key × V)}
theorem BadO.st (h : BadO K p H x m) (e : StP p H H') : BadO K p H' x m := h.imp (fun ⟨t, b1, b2, ty, r⟩ => ⟨t, b1, b2, fun H1 e1 => ty H1 (e.trans e1), r⟩) id
theorem BadO.bad (h : BadO K p H x m) : BadW K H x m := h.imp (fun ⟨t, b1, b2, ty, r⟩ => ⟨t, b1, b2, fun H1 e1 => ty H1 (StP.of e1), r⟩) id
theorem bo_non : BadO K p H .non m := .inl ⟨"NoneType", _, _, fun _ _ => .base .non, kb_non.1, kb_non.2, rfl⟩
theorem bo_bl : BadO K p H (.bl b) m := .inl ⟨"bool", _, _, fun _ _ => .base (.bl _), kb_bl.1, kb_bl.2, rfl⟩
theorem bo_str {s : Str} : BadO K p H (.str s) m := .inl ⟨"str", _, _, fun _ _ => .base (.str _), kb_str.1, kb_str.2, rfl⟩
theorem bo_int {i : Int} (h : i < 0 ∨ m < i) : BadO K p H (.int i) m := .inr ⟨i, rfl, h⟩
theorem bo_tup (h : H d = some (.tup xs)) (ne : d ≠ p) : BadO K p H (.ref d) m := .inl ⟨"tuple", _, _, fun _ e => .base (.tup (e _ _ h ne (fun _ z => nomatch z))), kb_tup.1, kb_tup.2, rfl⟩
theorem bo_lst (h : H d = some (.lst xs)) (ne : d ≠ p) : BadO K p H (.ref d) m := .inl ⟨"list", _, _, fun _ e => .base (.lst (e _ _ h ne (fun _ z => nomatch z))), kb_lst.1, kb_lst.2, rfl⟩
theorem kb_dict : kitB "dict" "int" = some false ∧ kitB "dict" "bool" = some false := by decide +kernel
theorem bo_dict (h : H d = some (.dK kvs)) (ne : d ≠ p) : BadO K p H (.ref d) m := .inl ⟨"dict", _, _, fun _ e => .base (.dK (e _ _ h ne (fun _ z => nomatch z))), kb_dict.1, kb_dict.2, rfl⟩
def EvB (K : PySem.W.Frag) (p : Addr) (m : Int) (te : TE) (σ : L2.St) (H : Hp) : Prop := ∀ H1, Ex H H1 → ∀ Q : VK, (∀ x H2, Ex H1 H2 → BadO K p H2 x m → Q x H2) → te σ H1 Q
def EvBs (K : PySem.W.Frag) (p : Addr) (m : Int) (ta : TA) (σ : L2.St) (H : Hp) (n : Nat) : Prop := ∀ H1, Ex H H1 → ∀ Q : List V → Hp → Prop, (∀ xs H2, Ex H1 H2 → xs.length = n → (∀ x ∈ xs, BadO K p H2 x m) → Q xs H2) → ta σ H1 Q
theorem ebs_nil : EvBs K p m tNil σ H 0 := fun H1 _ Q q => q [] H1 (Ex.refl _) rfl (fun _ z => nomatch z)
theorem ebs_cons (h : EvB K p m te σ H) (r : EvBs K p m ta σ H n) : EvBs K p m (tCons te ta) σ H (n + 1) := fun H1 e Q q =>
  h H1 e _ fun x H2 e2 bx => r H2 (e.trans e2) _ fun xs H3 e3 l all => q (x :: xs) H3 (e2.trans e3) (by rw [List.length_cons, l]) fun z hz => by
    rcases List.mem_cons.mp hz with rfl | hz
    · exact bx.st (StP.of e3)
    · exact all z hz
theorem eb_v (h : Ev te σ H x) (bx : ∀ H1, BadO K p H1 x m) : EvB K p m te σ H := fun H1 e Q q => h H1 e _ fun H2 e2 => q x H2 e2 (bx H2)
theorem eb_l (hb : BagAt H p) (h : EvL te σ H xs) : EvB K p m te σ H := fun H1 e Q q => h H1 e _ fun l H2 hl e2 h2 => q _ H2 e2 (bo_lst h2 (by
  obtain ⟨_, _, _, _, _, hp, _⟩ := hb.keep e
  exact (ne_of_none hp hl).symm))
theorem eb_u (hb : BagAt H p) (h : EvU te σ H xs) : EvB K p m te σ H := fun H1 e Q q => h H1 e _ fun l H2 hl e2 h2 => q _ H2 e2 (bo_tup h2 (by
  obtain ⟨_, _, _, _, _, hp, _⟩ := hb.keep e
  exact (ne_of_none hp hl).symm))
theorem eb_d (hb : BagAt H p) (h : EvD te σ H kvs) : EvB K p m te σ H := fun H1 e Q q => h H1 e _ fun l H2 hl e2 h2 => q _ H2 e2 (bo_dict h2 (by
  obtain ⟨_, _, _, _, _, hp, _⟩ := hb.keep e
  exact (ne_of_none hp hl).symm))
theorem ed_new : EvD tDNewK σ H [] := fun H1 e Q q p hp => q p _ hp (Ex.new hp) upd_same
theorem ed_disp1 {s : Str} (k1 : Ev t1 σ H (.str s)) (h1 : Ev v1 σ H x) : EvD (tDisp [(t1, v1)]) σ H [(.inr s, x)] := fun H1 e Q q p hp => by
  have e0 : Ex H (upd H1 p (.dK [])) := e.trans (Ex.new hp)
  refine k1 _ e0 _ fun H2 e2 => h1 H2 (e0.trans e2) _ fun H3 e3 => ?_
  have e13 := e2.trans e3
  refine ⟨e13 _ _ upd_same, [(.inr s, x)], rfl, by show 1 ≤ 15; decide, ?_⟩
  exact q p _ hp (fun b o hb => by rw [upd_ne (ne_of_none hb hp)]; exact e13 _ _ (Ex.new hp _ _ hb)) upd_same
theorem q_asgBs {i : Nat} {D : Ends} {tz : TS} (h : EvBs K p m ta σ H n) (hn : n ≤ 100) (k : ∀ l xs H1, Ex H H1 → xs.length = n → (∀ x ∈ xs, BadO K p H1 x m) → H1 l = some (.lst xs) → tz D (σ.set i (some (.ref l))) H1) : tSeq (tAsg (tLst ta) (gName i)) tz D σ H :=
  h H (Ex.refl H) _ fun xs H1 e l all => ⟨by rw [l]; exact Nat.le_trans hn (by decide), fun q hq => k q xs _ (e.trans (Ex.new hq)) l (fun x hx => (all x hx).st (StP.of (Ex.new hq))) upd_same⟩
theorem draw_ev {Q : VK} {i : Nat} (m : Nat) (hi : σ[i]? = some (some (.ref p))) (hm : Ev te σ H (.int (m : Nat))) (hb : BagAt H p) (h0 : 0 < m) (h1 : m ≤ 1000) (k : ∀ d H', d < m → ExB p H H' → BagAt H' p → Q (.int (d : Nat)) H') : tCall spDraw [] E (tCons (tVar i) (tCons te tNil)) σ H Q :=
  ⟨.ref p, hi, hm H (Ex.refl H) _ fun H1 e1 => ⟨p, m, rfl, hb.keep e1, h0, h1, fun d H' hd e b => k d H' hd ((ExB.of e1).trans e) b⟩⟩
end
def spOdd (K : PySem.W.Frag) : Sp := fun vs H Q _ => ∃ p : Addr, vs = [.ref p] ∧ BagAt H p ∧ ∀ x H', BadO K p H' x 511 → ExB p H H' → BagAt H' p → Q x H'
def sgn (n : Nat) : Nat → Str
  | 0 => ""
  | j + 1 => sgn n j ++ signAt n j
def spSigns : Sp := fun vs H Q _ => ∃ n : Nat, vs = [.int (n : Nat)] ∧ n < 512 ∧ ∀ H', Ex H H' → Q (.str (shown n)) H'
theorem sgn_is : ∀ n : Nat, n < 512 → sgn n 9 = shown n := by
  have h : ((List.range 512).all fun (n : Nat) => decide (sgn n 9 = shown n)) = true := by decide +kernel
  exact fun n hn => of_decide_eq_true (all_nat h n hn)
theorem sgn_len (n : Nat) : ∀ j, (sgn n j).length = j
  | 0 => rfl
  | j + 1 => by
    show ((sgn n j).cps ++ (signAt n j).cps).size = _
    rw [Array.size_append]
    have h1 : (sgn n j).cps.size = j := sgn_len n j
    have h2 : (signAt n j).cps.size = 1 := sign1 n j
    omega
theorem sign_at : ∀ n : Nat, n < 512 → ∀ j : Nat, j < 9 → (decide ((n : Int) / 2 ^ ((8 : Int) - (j : Int)).toNat % 2 = 1) = true ∧ ∃ c, atI ("rwx" : Str).cps.toList ((j : Int) - (j : Int) / 3 * 3) = some c ∧ signAt n j = ⟨#[c]⟩) ∨ (decide ((n : Int) / 2 ^ ((8 : Int) - (j : Int)).toNat % 2 = 1) = false ∧ signAt n j = "-") := by
  have h : ((List.range 512).all fun (n : Nat) => (List.range 9).all fun (j : Nat) => if decide ((n : Int) / 2 ^ ((8 : Int) - (j : Int)).toNat % 2 = 1) = true then (match atI ("rwx" : Str).cps.toList ((j : Int) - (j : Int) / 3 * 3) with | some c => decide (signAt n j = ⟨#[c]⟩) | none => false) else decide (signAt n j = "-")) = true := by decide +kernel
  intro n hn j hj
  have h1 := all_nat (all_nat h n hn) j hj
  by_cases q : decide ((n : Int) / 2 ^ ((8 : Int) - (j : Int)).toNat % 2 = 1) = true
  · rw [if_pos q] at h1
    refine .inl ⟨q, ?_⟩
    cases hc : atI ("rwx" : Str).cps.toList ((j : Int) - (j : Int) / 3 * 3) with
    | none => rw [hc] at h1; cases h1
    | some c => rw [hc] at h1; exact ⟨c, rfl, of_decide_eq_true h1⟩
  · rw [if_neg q] at h1
    exact .inr ⟨Bool.eq_false_iff.mpr q, of_decide_eq_true h1⟩
theorem rv_addS {H : Hp} {a b : Str} (h : a.length + b.length ≤ 100000) : RV (fun x y H Q => ∃ a b, x = .str a ∧ y = .str b ∧ a.length + b.length ≤ sizeLine ∧ Q (.str (a ++ b)) H) (.str a) (.str b) H (.str (a ++ b)) := fun H1 _ _ q => ⟨a, b, rfl, rfl, sz_of h, q H1 (Ex.refl H1)⟩
section
variable {P : Program} {w : World} {K : PySem.W.Frag} {mg : Str → Option Value} {base : Heap} {a : Ads}
theorem ok_odd_value (T : Txt w K mg a) : FnOk P w K mg base CX0 2 a.f__law_odd_value a.d__law_odd_value ["_law_bag_here"] (spOdd K) := by
  have G__law_draw : FnOk P w K mg base CX0 1 _ _ _ _ := ok_draw T
  refine T.fn__law_odd_value.ok sc__law_odd_value (fun vs H Q E h => ?_) (fun cdv A outer s H vs Q E hr h => ?_)
  · obtain ⟨_, rfl, _⟩ := h
    rfl
  · obtain ⟨p, rfl, bag, k⟩ := h
    have hrc : Room 1 _ := hr
    refine ⟨_, (pss_cons (ps_set (i := 1) sc__law_odd_value.nd rfl (Or.inl rfl) (pe_lst (pa_cons pe_non (pa_cons pe_bl (pa_cons pe_bl (pa_cons pe_str (pa_cons pe_str (pa_cons (pe_un un_neg pe_int) (pa_cons pe_int (pa_cons (pe_un un_neg (pe_op op_pow pe_int pe_int)) (pa_cons (pe_op op_pow pe_int pe_int) (pa_cons (pe_lst (pa_cons pe_int pa_nil)) (pa_cons (pe_tup (pa_cons pe_int pa_nil)) (pa_cons pe_dnewK (pa_cons pe_str (pa_cons (pe_lst (pa_cons pe_int pa_nil)) (pa_cons (pe_disp (pps_cons pe_str pe_int pps_nil) (by rfl) (by rfl) (fun z => by cases z) (by decide)) pa_nil)))))))))))))))))
    (pss_one (ps_ret (pe_ix ix_list (pv 1) (pe_call G__law_draw hrc rfl T.mg__law_draw T.fn__law_draw.kp (bd__law_draw T) .nil pass0 (pa_cons (pv 0) (pa_cons (pe_callB call_len_seq (by rfl) T.b_len PySem.boot_len (pa_cons (pv 1) pa_nil)) pa_nil))) (fun _ _ => rfl))))), ?_⟩
    refine q_asgBs (K := K) (p := p) (m := 511) (n := 15) (ebs_cons (eb_v ev_c fun _ => bo_non) (ebs_cons (eb_v ev_c fun _ => bo_bl) (ebs_cons (eb_v ev_c fun _ => bo_bl) (ebs_cons (eb_v ev_c fun _ => bo_str) (ebs_cons (eb_v ev_c fun _ => bo_str) (ebs_cons (eb_v (ev_un ev_c ru_neg) fun _ => bo_int (.inl (by decide))) (ebs_cons (eb_v ev_c fun _ => bo_int (.inr (by decide))) (ebs_cons (eb_v (ev_un (ev_op ev_c ev_c (rv_I ⟨by decide, by decide, by decide⟩)) ru_neg) fun _ => bo_int (.inl (by decide))) (ebs_cons (eb_v (ev_op ev_c ev_c (rv_I ⟨by decide, by decide, by decide⟩)) fun _ => bo_int (.inr (by decide))) (ebs_cons (eb_l bag (el_lst (vs := [.int 5]) (ea_cons ev_c ea_nil) (by show 1 ≤ 100000; decide))) (ebs_cons (eb_u bag (eu_tup (vs := [.int 5]) (ea_cons ev_c ea_nil) (by show 1 ≤ 100000; decide))) (ebs_cons (eb_d bag ed_new) (ebs_cons (eb_v ev_c fun _ => bo_str) (ebs_cons (eb_l bag (el_lst (vs := [.int 0]) (ea_cons ev_c ea_nil) (by show 1 ≤ 100000; decide))) (ebs_cons (eb_d bag (ed_disp1 ev_c ev_c)) ebs_nil))))))))))))))) (by decide) fun l xs H1 e1 hl all h1 => ?_
    have ln : l ≠ p := fun z => by
      obtain ⟨_, _, _, _, _, hp, _⟩ := bag.keep e1
      rw [z, hp] at h1
      cases h1
    refine ⟨.ref l, rfl, draw_ev 15 rfl (ev_is (ev_len (K := K) (ev_var rfl) (sq_of h1)) (by rw [hl] <;> rfl)) (bag.keep e1) (by decide) (by decide) fun d H2 hd e2 bag2 => ?_⟩
    have hd2 : d < xs.length := by omega
    refine ⟨l, xs, (d : Nat), xs[d], rfl, rfl, sq_of (e2 _ _ h1 ln), atI_nat (by simp [hd2]), ?_⟩
    exact k _ H2 ((all _ (List.getElem_mem hd2)).st (StP.ofB e2)) ((ExB.of e1).trans e2) bag2
theorem ok_signs (T : Txt w K mg a) : FnOk P w K mg base CX0 1 a.f__law_signs a.d__law_signs ["_law_amount"] spSigns := by
  refine T.fn__law_signs.ok sc__law_signs (fun vs H Q E h => ?_) (fun cdv A outer s H vs Q E hr h => ?_)
  · obtain ⟨_, rfl, _⟩ := h
    rfl
  · obtain ⟨n, rfl, hn, k⟩ := h
    refine ⟨_, (pss_cons (ps_set (i := 1) sc__law_signs.nd rfl (Or.inl rfl) pe_str)
    (pss_cons (ps_for PassesOwn.never rfl (pi_range1 rfl T.b_range (pa_cons pe_int pa_nil)) (pg_name (i := 2) sc__law_signs.nd rfl (Or.inl rfl)) (pss_one (ps_if (pt_cmpR op_eq (pe_op op_mod (pe_callTy call_int1 (by rfl) T.b_int (by decide +kernel) (pa_cons (pe_op op_shr (pv 0) (pe_op op_sub pe_int (pv 2))) pa_nil)) pe_int) pe_int (nomark _)) (pss_one (ps_set (i := 1) sc__law_signs.nd rfl (Or.inl rfl) (pe_op op_add_str (pv 1) (pe_ix ix_str pe_str (pe_op op_sub (pv 2) (pe_op op_mul (pe_op op_fdiv (pv 2) pe_int) pe_int)) (fun _ _ => rfl))))) (pss_one (ps_set (i := 1) sc__law_signs.nd rfl (Or.inl rfl) (pe_op op_add_str (pv 1) pe_str))))))
    (pss_one (ps_ret (pv 1))))), ?_⟩
    refine q_asg (v := .str "") ev_c fun H1 e1 => ?_
    refine q_forR1 (n := 9) (ea_cons ev_c ea_nil) (by decide) (fun j σ' H' => ∃ o2, σ' = [some (.int (n : Nat)), some (.str (sgn n j)), o2] ∧ Ex H H') (fun H2 e2 => ⟨_, rfl, e1.trans e2⟩) (fun j σ' H2 hj q => ?_) (fun σ' H2 q => ?_)
    · obtain ⟨o2, rfl, e2⟩ := q
      have hj9 : j < 9 := by omega
      have sl := sgn_len n j
      have fin : ∀ (H3 : Hp) (s : Str), signAt n j = s → Ex H2 H3 → ∃ o2, [some (V.int (n : Nat)), some (.str (sgn n j ++ s)), some (.int (j : Nat))] = [some (.int (n : Nat)), some (.str (sgn n (j + 1))), o2] ∧ Ex H H3 := fun H3 s es e3 => ⟨some (.int (j : Nat)), by subst es; rfl, e2.trans e3⟩
      rcases sign_at n hn j hj9 with ⟨b, c, hc, hs⟩ | ⟨b, hs⟩
      · refine s_if (b := true) (et_is (et_test (ev_op (ev_op (ev_int (ev_op (ev_var rfl) (ev_op ev_c (ev_var rfl) rv_I0) (rv_I (by omega)))) ev_c (rv_I (by decide))) ev_c (rv_eq rfl))) ?_) (fun _ H3 e3 => ?_) (fun z => nomatch z)
        · rw [← b]
          exact decide_eq_decide.mpr ⟨fun z => by injection z, fun z => congrArg V.int z⟩
        · refine s_asg (v := .str (sgn n j ++ ⟨#[c]⟩)) (ev_op (ev_var rfl) (ev_op ev_c (ev_op (ev_var rfl) (ev_op (ev_op (ev_var rfl) ev_c (rv_I ⟨by decide, by decide⟩)) ev_c (rv_I (.inr ⟨by decide, by decide⟩))) rv_I0) (rv_ixS (by show 3 ≤ 100000; decide) hc)) (rv_addS (by show (sgn n j).length + 1 ≤ 100000; omega))) fun H4 e4 => fin H4 _ hs (e3.trans e4)
      · refine s_if (b := false) (et_is (et_test (ev_op (ev_op (ev_int (ev_op (ev_var rfl) (ev_op ev_c (ev_var rfl) rv_I0) (rv_I (by omega)))) ev_c (rv_I (by decide))) ev_c (rv_eq rfl))) ?_) (fun z => nomatch z) (fun _ H3 e3 => ?_)
        · rw [← b]
          exact decide_eq_decide.mpr ⟨fun z => by injection z, fun z => congrArg V.int z⟩
        · refine s_asg (v := .str (sgn n j ++ "-")) (ev_op (ev_var rfl) ev_c (rv_addS (by show (sgn n j).length + 1 ≤ 100000; omega))) fun H4 e4 => fin H4 _ hs (e3.trans e4)
    · obtain ⟨o2, rfl, e2⟩ := q
      exact s_ret (v := .str (shown n)) (ev_is (ev_var rfl) (congrArg V.str (sgn_is n hn))) fun H3 e3 => k H3 (e2.trans e3)
end
end KD
set_option Elab.async false
set_option linter.all false
set_option maxRecDepth 100000
set_option maxHeartbeats 4000000
namespace KD
open PySem PySem.Spec PyProof.Rows L2 Evl
local macro_rules | `(tactic| walk_at "ev") => `(tactic| repeat' (first | exact ev_c | exact ev_var rfl | exact rv_I0 | refine' rv_I ?_ | refine' rv_eq ?_ | refine' rv_ne ?_ | refine' ev_op ?_ ?_ ?_ | exact ea_nil | refine' ea_cons ?_ ?_ | refine' et_test ?_ | refine' et_B ?_ | refine' et_not ?_ | refine' ev_notV ?_))

open PySem LamX
def strI (i : Int) : Str := toString i
def dueS (n : Nat) : Str := ((((("Mode(0o" : Str) ++ strI ((n / 64 : Nat) : Int)) ++ strI ((n / 8 % 8 : Nat) : Int)) ++ strI ((n % 8 : Nat) : Int)) ++ (")" : Str))
theorem due_is : ∀ n : Nat, n < 512 → dueS n = repS n ∧ (9 : Int) - Txt.count (shown n) "-" = (ones n : Nat) := by
  have h : ((List.range 512).all fun (n : Nat) => decide (dueS n = repS n ∧ (9 : Int) - Txt.count (shown n) "-" = (ones n : Nat))) = true := by decide +kernel
  exact fun n hn => of_decide_eq_true (all_nat h n hn)
theorem due_len : ∀ n : Nat, n < 512 → ("Mode(0o" : Str).length + (strI ((n / 64 : Nat) : Int)).length ≤ 100 ∧ (("Mode(0o" : Str) ++ strI ((n / 64 : Nat) : Int)).length + (strI ((n / 8 % 8 : Nat) : Int)).length ≤ 100 ∧ ((("Mode(0o" : Str) ++ strI ((n / 64 : Nat) : Int)) ++ strI ((n / 8 % 8 : Nat) : Int)).length + (strI ((n % 8 : Nat) : Int)).length ≤ 100 ∧ (((("Mode(0o" : Str) ++ strI ((n / 64 : Nat) : Int)) ++ strI ((n / 8 % 8 : Nat) : Int)) ++ strI ((n % 8 : Nat) : Int)).length + (")" : Str).length ≤ 100 := by
  have h : ((List.range 512).all fun (n : Nat) => decide (("Mode(0o" : Str).length + (strI ((n / 64 : Nat) : Int)).length ≤ 100 ∧ (("Mode(0o" : Str) ++ strI ((n / 64 : Nat) : Int)).length + (strI ((n / 8 % 8 : Nat) : Int)).length ≤ 100 ∧ ((("Mode(0o" : Str) ++ strI ((n / 64 : Nat) : Int)) ++ strI ((n / 8 % 8 : Nat) : Int)).length + (strI ((n % 8 : Nat) : Int)).length ≤ 100 ∧ (((("Mode(0o" : Str) ++ strI ((n / 64 : Nat) : Int)) ++ strI ((n / 8 % 8 : Nat) : Int)) ++ strI ((n % 8 : Nat) : Int)).length + (")" : Str).length ≤ 100)) = true := by decide +kernel
  exact fun n hn => of_decide_eq_true (all_nat h n hn)
theorem op_eqE {X : Cx} {K : PySem.W.Frag} (h : X.K = K) (hu : X.A.units + 64 < cLine) : OpR X (compareOp .Eq) (rEqD K) := by
  subst h
  exact op_eqD hu
theorem op_ownBE {X : Cx} {K : PySem.W.Frag} {CX : CXT} {C g : Addr} {n : Nat} {sp : Sp} {E : XK} {op : CmpOp} (hK : X.K = K) (hop : ∀ a b, compareOp op a b = richCompare op a b) (hs : PySem.W.findIn K (.ref C) (cmpInfo op).2.1 = some (some (.ref g))) (hf : PySem.W.isFn K (.ref g) = true)
    (F : FnR X.prog X.w X.K X.mg X.base CX n g sp) (room : Room n X.A) (hx : Passes CX X E) : OpR X (compareOp op) (rOwnB K C sp E) := by
  subst hK
  exact op_ownB hop hs hf F room hx
section
variable {K : PySem.W.Frag} {a : Ads} {σ : L2.St} {H : Hp} {ta tb te ty t1 t2 t3 t4 : TE} {E E' : XK} {n k : Nat} {p q : Addr} {y v x : V} {b : Bool} {xs : List V}
theorem ev_eqM (h1 : Ev te σ H (.ref p)) (mp : ModeAt a H p n) (h2 : EvM a ty σ H n) (c : ∀ H1 q m, ModeAt a H1 q m → TyX K H1 (.ref q) (.ref a.f_Mode)) (nf : PySem.W.notFirst K a.f_Mode (.ref a.f_Mode) = true) : Ev (tOp (rOwnB K a.f_Mode (fun vs H Q E => spEqB K a (vs ++ []) H Q E) E) te ty) σ H (.bl true) := fun H1 e Q k =>
  h1 H1 e _ fun H2 e2 => h2 H2 (e.trans e2) _ fun q H3 _ e3 mq => by
    have m3 := mp.mono ((e.trans e2).trans e3)
    obtain ⟨dx, ho⟩ := id m3
    exact ⟨p, dx, _, _, rfl, ho, c H3 q n mq, nf, p, n, .ref q, true, rfl, m3, .inl ⟨q, n, rfl, mq, (decide_eq_true rfl).symm⟩, fun H4 e4 => k H4 ((e2.trans e3).trans e4)⟩
theorem ev_sameV (h1 : Ev ta σ H v) (h2 : Ev tb σ H v) (fl : ∀ H, SD H k v v) : Ev (tCall (spSame k) [] E (tCons ta (tCons tb tNil))) σ H (.bl true) := fun H1 e Q kk =>
  h1 H1 e _ fun H2 e2 => h2 H2 (e.trans e2) _ fun H3 e3 => ⟨v, v, rfl, fl H3, fun H4 e4 => kk H4 ((e2.trans e3).trans e4)⟩
theorem ev_sameL (h1 : EvL ta σ H xs) (h2 : ∀ H1, Ex H H1 → EvL tb σ H1 xs) (short : xs.length ≤ 1000) (fl : ∀ (H : Hp) (x : V), x ∈ xs → SD H k x x) : Ev (tCall (spSame (k + 1)) [] E (tCons ta (tCons tb tNil))) σ H (.bl true) := fun H1 e Q kk =>
  h1 H1 e _ fun b H2 _ e2 x2 => h2 H2 (e.trans e2) H2 (Ex.refl _) _ fun c H3 _ e3 y3 => ⟨.ref b, .ref c, rfl, .seq false (show H3 b = _ from e3 _ _ x2) (show H3 c = _ from y3) rfl short (fun j x y hx hy => by
    rw [hx] at hy
    cases hy
    exact fl H3 x (List.mem_of_getElem? hx)), fun H4 e4 => kk H4 ((e2.trans e3).trans e4)⟩
theorem ev_same2 (h1 : Ev t1 σ H x) (h2 : EvU t2 σ H xs) (h3 : Ev t3 σ H x) (h4 : EvU t4 σ H xs) (fx : ∀ H, SD H 1 x x) (short : xs.length ≤ 1000) (fl : ∀ (H : Hp) (x : V), x ∈ xs → SD H 0 x x) : Ev (tCall (spSame 2) [] E (tCons (tLst (tCons t1 (tCons t2 tNil))) (tCons (tLst (tCons t3 (tCons t4 tNil))) tNil))) σ H (.bl true) := fun H1 e Q kk =>
  h1 H1 e _ fun H2 e2 => h2 H2 (e.trans e2) _ fun p2 H3 _ e3 q2 => ⟨by show 2 ≤ sizeLine; decide, fun l1 hl1 => by
    have f1 := Ex.new hl1 (o := .lst [x, .ref p2])
    have e04 := ((e.trans e2).trans e3).trans f1
    refine h3 _ e04 _ fun H5 e5 => h4 H5 (e04.trans e5) _ fun p4 H6 _ e6 q4 => ⟨by show 2 ≤ sizeLine; decide, fun l2 hl2 => ?_⟩
    have f2 := Ex.new hl2 (o := .lst [x, .ref p4])
    have g1 := (e5.trans e6).trans f2
    refine ⟨.ref l1, .ref l2, rfl, .seq (n := 1) false (g1 _ _ upd_same) upd_same rfl (by show 2 ≤ 1000; decide) (fun i u w hu hw => ?_), fun H7 e7 => kk H7 (((((e2.trans e3).trans f1).trans g1)).trans e7)⟩
    match i, hu, hw with
    | 0, hu, hw => cases hu; cases hw; exact fx _
    | 1, hu, hw =>
      cases hu; cases hw
      exact .seq (n := 0) true ((f1.trans g1) _ _ q2) (f2 _ _ q4) rfl short (fun i u w hu hw => by
        rw [hu] at hw
        cases hw
        exact fl _ u (List.mem_of_getElem? hu))⟩
theorem eu_dig (h : Ev ta σ H (.ref p)) (mp : ModeAt a H p n) (hn : n < 512) : EvU (tProp a.f_Mode (spDig a) [] E ta) σ H (digV n) := fun H1 e Q q =>
  h H1 e _ fun H2 e2 => by
    have m2 := mp.mono (e.trans e2)
    obtain ⟨dx, ho⟩ := id m2
    exact ⟨p, dx, _, rfl, ho, p, n, rfl, m2, hn, fun t H' ht e' h' => q t H' (fresh_back e2 ht) (e2.trans e') h'⟩
theorem ev_strM (h : Ev ta σ H (.ref p)) (m : ModeAt a H p n) (hn : n < 512) : Ev (tCB (rStrOwn a.f_Mode (fun vs H Q E => spStr a (vs ++ []) H Q E) E) (tCons ta tNil)) σ H (.str (shown n)) := fun H1 e1 Q q =>
  h H1 e1 _ fun H2 e2 => by
    have m2 := m.mono (e1.trans e2)
    obtain ⟨dx, ho⟩ := id m2
    exact ⟨p, dx, _, rfl, ho, p, n, rfl, m2, hn, fun H3 e3 => ⟨shown n, rfl, q H3 (e2.trans e3)⟩⟩
theorem ev_reprM (h : Ev ta σ H (.ref p)) (m : ModeAt a H p n) (hn : n < 512) : Ev (tCB (rReprOwn a.f_Mode (fun vs H Q E => spRepr a (vs ++ []) H Q E) E) (tCons ta tNil)) σ H (.str (repS n)) := fun H1 e1 Q q =>
  h H1 e1 _ fun H2 e2 => by
    have m2 := m.mono (e1.trans e2)
    obtain ⟨dx, ho⟩ := id m2
    exact ⟨p, dx, _, rfl, ho, p, n, rfl, m2, hn, fun H3 e3 => ⟨repS n, rfl, q H3 (e2.trans e3)⟩⟩
theorem ev_lenM (h : Ev ta σ H (.ref p)) (m : ModeAt a H p n) (hn : n < 512) : Ev (tCB (rLenOwn a.f_Mode (fun vs H Q E => spLen a (vs ++ []) H Q E) E) (tCons ta tNil)) σ H (.int (ones n : Nat)) := fun H1 e1 Q q =>
  h H1 e1 _ fun H2 e2 => by
    have m2 := m.mono (e1.trans e2)
    obtain ⟨dx, ho⟩ := id m2
    have l : ones n ≤ 9 := by
      unfold ones
      exact Nat.le_trans (List.length_filter_le _ _) (by rw [List.length_range]; exact Nat.le_refl _)
    exact ⟨p, dx, _, rfl, ho, p, n, rfl, m2, hn, fun H3 e3 => ⟨_, rfl, by omega, by omega, q H3 (e2.trans e3)⟩⟩
theorem ev_boolM (h : Ev ta σ H (.ref p)) (m : ModeAt a H p n) : Ev (tCB (rBoolOwn a.f_Mode (fun vs H Q E => spBool a (vs ++ []) H Q E) E) (tCons ta tNil)) σ H (.bl (((n : Nat) : Int) != 0)) := fun H1 e1 Q q =>
  h H1 e1 _ fun H2 e2 => by
    have m2 := m.mono (e1.trans e2)
    obtain ⟨dx, ho⟩ := id m2
    exact ⟨p, dx, _, rfl, ho, p, n, rfl, m2, fun H3 e3 => ⟨_, rfl, q H3 (e2.trans e3)⟩⟩
theorem ev_strI {i : Int} (h : Ev ta σ H (.int i)) (hs : i.natAbs.log2 < 1920) : Ev (tCB (fun xs H Q => ∃ i, xs = [V.int i] ∧ i.natAbs.log2 < 1920 ∧ Q (.str (toString i)) H) (tCons ta tNil)) σ H (.str (strI i)) := fun H1 e1 Q q => h H1 e1 _ fun H2 e2 => ⟨i, rfl, hs, q H2 e2⟩
theorem ev_count {s c : Str} (h1 : Ev ta σ H (.str s)) (h2 : Ev tb σ H (.str c)) : Ev (tBM K "str" (fun x xs H Q => ∃ a b, x = .str a ∧ xs = [.str b] ∧ Q (.int (Txt.count a b)) H) ta (tCons tb tNil)) σ H (.int (Txt.count s c)) := fun H1 e Q q =>
  h1 H1 e _ fun H2 e2 => ⟨rfl, h2 H2 (e.trans e2) _ fun H3 e3 => ⟨s, c, rfl, rfl, q H3 (e2.trans e3)⟩⟩
theorem ev_eqNil (h1 : EvL ta σ H []) (h2 : ∀ H1, Ex H H1 → EvL tb σ H1 []) : Ev (tOp (rEqD K) ta tb) σ H (.bl true) := fun H1 e Q q =>
  h1 H1 e _ fun l1 H2 _ e2 q1 => h2 H2 (e.trans e2) H2 (Ex.refl _) _ fun l2 H3 _ e3 q2 => ⟨.list [], .list [], .lst (sq_of (e3 _ _ q1)) .nil, .lst (sq_of q2) .nil, by decide +kernel, by decide +kernel, by
    rw [show PyData.eqv (.list []) (.list []) = true by decide +kernel]
    exact q H3 (e2.trans e3)⟩
theorem q_asgUn {i : Nat} {D : Ends} {tz : TS} {t5 t6 : TE} {s : Str} (h1 : Ev t1 σ H .non) (h2 : Ev t2 σ H (.int (n : Nat))) (h3 : Ev t3 σ H (.str s)) (h4 : EvL t4 σ H [.int (n : Nat)]) (h5 : Ev t5 σ H (.bl true)) (h6 : EvM a t6 σ H (511 - n)) (kk : ∀ pl pm l H1, Ex H H1 → H1 pl = some (.lst [.int (n : Nat)]) → ModeAt a H1 pm (511 - n) → H1 l = some (.lst [.non, .int (n : Nat), .str s, .ref pl, .bl true, .ref pm]) → tz D (σ.set i (some (.ref l))) H1) :
    tSeq (tAsg (tLst (tCons t1 (tCons t2 (tCons t3 (tCons t4 (tCons t5 (tCons t6 tNil))))))) (gName i)) tz D σ H :=
  h1 H (Ex.refl H) _ fun H1 e1 => h2 H1 e1 _ fun H2 e2 => h3 H2 (e1.trans e2) _ fun H3 e3 => by
    have e03 := (e1.trans e2).trans e3
    refine h4 H3 e03 _ fun pl H4 _ e4 q4 => h5 H4 (e03.trans e4) _ fun H5 e5 => h6 H5 ((e03.trans e4).trans e5) _ fun pm H6 _ e6 m6 => ⟨by show 6 ≤ sizeLine; decide, fun l hl => ?_⟩
    have el := Ex.new hl (o := .lst [.non, .int (n : Nat), .str s, .ref pl, .bl true, .ref pm])
    exact kk pl pm l _ ((((e03.trans e4).trans e5).trans e6).trans el) (el _ _ (e6 _ _ (e5 _ _ q4))) (m6.mono el) upd_same
theorem small_dig {m : Nat} (h : m < 8) : ((m : Nat) : Int).natAbs.log2 < 1920 := by
  have : ((List.range 8).all fun (m : Nat) => decide (((m : Nat) : Int).natAbs.log2 < 1920)) = true := by decide +kernel
  exact of_decide_eq_true (all_nat this m h)
end
def spRight (a : Ads) : Sp := fun vs H Q _ => ∃ (p : Addr) (n : Nat), vs = [.ref p, .int (n : Nat)] ∧ ModeAt a H p n ∧ n < 512 ∧ ∀ H', Ex H H' → Q (.bl true) H'
section
variable {P : Program} {w : World} {K : PySem.W.Frag} {mg : Str → Option Value} {base : Heap} {a : Ads}
theorem un_no (T : Txt w K mg a) {H : Hp} {n i : Nat} {pl pm : Addr} {s : Str} {v : V} (hn : n < 512) (q : H pl = some (.lst [.int (n : Nat)])) (m : ModeAt a H pm (511 - n)) (h : [V.non, .int (n : Nat), .str s, .ref pl, .bl true, .ref pm][i]? = some v) : EqTo K a H n v false := by
  match i, h with
  | 0, h => cases h; exact .inr ⟨rfl, "NoneType", fun _ _ => .base .non, T.nt_NoneType, T.nf_NoneType⟩
  | 1, h => cases h; exact .inr ⟨rfl, "int", fun _ _ => .base (.int _), T.ii_Mode, T.nf_int⟩
  | 2, h => cases h; exact .inr ⟨rfl, "str", fun _ _ => .base (.str _), T.nt_str, T.nf_str⟩
  | 3, h => cases h; exact .inr ⟨rfl, "list", fun _ e => .base (.lst (e _ _ q)), T.nt_list, T.nf_list⟩
  | 4, h => cases h; exact .inr ⟨rfl, "bool", fun _ _ => .base (.bl _), T.nt_bool, T.nf_bool⟩
  | 5, h =>
    cases h
    exact .inl ⟨pm, 511 - n, rfl, m, (decide_eq_false (fun z => by injection z with z; omega)).symm⟩
theorem ok_right (T : Txt w K mg a) : FnOk P w K mg base CX0 9 a.f__law_right a.d__law_right ["_law_mode", "_law_amount"] (spRight a) := by
  have G__law_signs : FnOk P w K mg base CX0 8 _ _ _ _ := (ok_signs T).mono (by decide)
  have G__law_same : FnOk P w K mg base CX0 8 _ _ _ (spSame 2) := (show FnOk P w K mg base CX0 3 _ _ _ (spSame 2) from ok_sameG T 3).mono (by decide)
  have G_Mode_init : FnOk P w K mg base CX0 7 _ _ _ _ := (ok_Mode_init T).mono (by decide)
  have G_Mode_number : FnOk P w K mg base CX0 7 _ _ _ _ := (ok_Mode_number T).mono (by decide)
  have G_Mode_digits : FnOk P w K mg base CX0 7 _ _ _ _ := (ok_digits T).mono (by decide)
  have G_str : FnOk P w K mg base CX0 6 _ _ _ _ := (ok_Mode_str T).mono (by decide)
  have G_bool : FnOk P w K mg base CX0 6 _ _ _ _ := (ok_bool T).mono (by decide)
  have G_repr : FnOk P w K mg base CX0 7 _ _ _ _ := (ok_repr T).mono (by decide)
  have G_len : FnOk P w K mg base CX0 7 _ _ _ _ := (ok_len T).mono (by decide)
  have G_eq : FnOk P w K mg base CX0 8 _ _ _ _ := (ok_eq T).mono (by decide)
  refine T.fn__law_right.ok sc__law_right (fun vs H Q E h => ?_) (fun cdv A outer s H vs Q E hr h => ?_)
  · obtain ⟨_, _, rfl, _⟩ := h
    rfl
  · obtain ⟨p, n, rfl, mp, hn, k⟩ := h
    have hrc : Room 8 _ := hr
    have hrm : Room (7 + 1) _ := hr
    have hrs : Room (6 + 2) _ := hr
    obtain ⟨du, co⟩ := due_is n hn
    obtain ⟨l1, l2, l3, l4⟩ := due_len n hn
    refine ⟨_, (pss_cons (ps_set (i := 2) sc__law_right.nd rfl (Or.inl rfl) (pe_call G__law_signs hrc rfl T.mg__law_signs T.fn__law_signs.kp (bd__law_signs T) .nil pass0 (pa_cons (pv 1) pa_nil)))
    (pss_cons (ps_set (i := 3) sc__law_right.nd rfl (Or.inl rfl) (pe_op op_fdiv (pv 1) pe_int))
    (pss_cons (ps_set (i := 4) sc__law_right.nd rfl (Or.inl rfl) (pe_op op_sub (pe_op op_fdiv (pv 1) pe_int) (pe_op op_mul pe_int (pv 3))))
    (pss_cons (ps_set (i := 5) sc__law_right.nd rfl (Or.inl rfl) (pe_op op_sub (pe_op op_sub (pv 1) (pe_op op_mul pe_int (pv 3))) (pe_op op_mul pe_int (pv 4))))
    (pss_cons (ps_if (PW.pt (pw_or (pt_not (pt_val (pe_call G__law_same hrc rfl T.mg__law_same T.fn__law_same.kp (bd__law_same T) .nil pass0 (pa_cons (pe_lst (pa_cons (pe_prop (pv 0) T.c_Mode T.p_Mode_number (G_Mode_number) hrm (bd_Mode_number T) .nil pass0 rfl) (pa_cons (pe_prop (pv 0) T.c_Mode T.p_Mode_digits (G_Mode_digits) hrm (bd_Mode_digits T) .nil pass0 rfl) pa_nil))) (pa_cons (pe_lst (pa_cons (pv 1) (pa_cons (pe_tup (pa_cons (pv 3) (pa_cons (pv 4) (pa_cons (pv 5) pa_nil)))) pa_nil))) pa_nil))))) (pw_or1 (pt_not (pt_val (pe_call G__law_same hrc rfl T.mg__law_same T.fn__law_same.kp (bd__law_same T) .nil pass0 (pa_cons (pe_callTy (call_strOwn T.m_ModeD_strD.at_ T.m_ModeD_strD.fn (G_str.raw (bd_ModeD_strD T) .nil) hrs pass0) (by rfl) T.b_str (by decide +kernel) (pa_cons (pv 0) pa_nil)) (pa_cons (pv 2) pa_nil)))))))) (pss_one (ps_ret pe_bl)) pss_nil)
    (pss_cons (ps_if (pt_not (pt_val (pe_call G__law_same hrc rfl T.mg__law_same T.fn__law_same.kp (bd__law_same T) .nil pass0 (pa_cons (pe_callB (call_reprOwn T.m_ModeD_reprD.at_ T.m_ModeD_reprD.fn (G_repr.raw (bd_ModeD_reprD T) .nil) hrm pass0) (by rfl) T.b_repr PyProof.Rows.boot_repr (pa_cons (pv 0) pa_nil)) (pa_cons (pe_op op_add_str (pe_op op_add_str (pe_op op_add_str (pe_op op_add_str pe_str (pe_callTy call_str_int (by rfl) T.b_str (by decide +kernel) (pa_cons (pv 3) pa_nil))) (pe_callTy call_str_int (by rfl) T.b_str (by decide +kernel) (pa_cons (pv 4) pa_nil))) (pe_callTy call_str_int (by rfl) T.b_str (by decide +kernel) (pa_cons (pv 5) pa_nil))) pe_str) pa_nil))))) (pss_one (ps_ret pe_bl)) pss_nil)
    (pss_cons (ps_if (pt_not (pt_val (pe_call G__law_same hrc rfl T.mg__law_same T.fn__law_same.kp (bd__law_same T) .nil pass0 (pa_cons (pe_lst (pa_cons (pe_callB (call_lenOwn T.m_ModeD_lenD.at_ T.m_ModeD_lenD.fn (G_len.raw (bd_ModeD_lenD T) .nil) hrm pass0) (by rfl) T.b_len PySem.boot_len (pa_cons (pv 0) pa_nil)) (pa_cons (pe_callTy (call_boolOwn T.m_ModeD_boolD.at_ T.m_ModeD_boolD.fn (G_bool.raw (bd_ModeD_boolD T) .nil) hrs pass0) (by rfl) T.b_bool (by decide +kernel) (pa_cons (pv 0) pa_nil)) pa_nil))) (pa_cons (pe_lst (pa_cons (pe_op op_sub pe_int (pe_bm PySem.F.plainAttrs_str PySem.F.slot_str_count PySem.F.type_str_count mt_scount (pv 2) (pa_cons pe_str pa_nil))) (pa_cons (pe_cmpR op_gt (pv 1) pe_int (nomark _)) pa_nil))) pa_nil))))) (pss_one (ps_ret pe_bl)) pss_nil)
    (pss_cons (ps_set (i := 6) sc__law_right.nd rfl (Or.inl rfl) (pe_lst (pa_cons pe_non (pa_cons (pv 1) (pa_cons (pv 2) (pa_cons (pe_lst (pa_cons (pv 1) pa_nil)) (pa_cons pe_bl (pa_cons (pe_make T.mk_Mode G_Mode_init hrm rfl T.mg_Mode (bd_ModeD_initD T) .nil pass0 (pa_cons (pe_op op_sub pe_int (pv 1)) pa_nil)) pa_nil))))))))
    (pss_one (ps_ret (pe_and (pe_cmpR (op_ownBE (K := K) (op := .Eq) rfl (by intro _ _; rfl) T.m_ModeD_eqD.at_ T.m_ModeD_eqD.fn (G_eq.raw (bd_ModeD_eqD T) .nil) hrc pass0) (pv 0) (pe_make T.mk_Mode G_Mode_init hrm rfl T.mg_Mode (bd_ModeD_initD T) .nil pass0 (pa_cons (pv 1) pa_nil)) (nomark _)) (pe_one (pe_cmpR (op_eqE (K := K) rfl hr.units) (pe_lc (own := [("_law_other", 7)]) (g := gName 7) rfl sc__law_right.nd (pi_list (pv 6)) (blkOk_by (own := [("_law_other", 7)]) (N := n__law_right) (sc := defScope s__law_right) (by decide +kernel)) (fun _ _ _ _ _ => (pg_name (i := 7) sc__law_right.nd rfl (Or.inl rfl))) (fun _ _ _ _ _ => (pts_one (pt_cmpR (op_ownBE (K := K) (op := .Eq) rfl (by intro _ _; rfl) T.m_ModeD_eqD.at_ T.m_ModeD_eqD.fn (G_eq.raw (bd_ModeD_eqD T) .nil) hrc pass0) (pv 0) (pv 7) (nomark _)))) (fun _ _ _ _ _ => pe_int)) (pe_lst pa_nil) (nomark _)))))))))))))), ?_⟩
    refine q_asg (v := .str (shown n)) (ev_call (vs := [.int (n : Nat)]) (ea_cons (ev_var rfl) ea_nil) fun H1 e Q q E => ⟨n, rfl, hn, q⟩) fun H1 e1 => ?_
    refine q_asg (v := .int (n / 64 : Nat)) (ev_is (ev_op (ev_var rfl) ev_c (rv_I ⟨by decide, by decide⟩)) (congrArg V.int (by omega))) fun H2 e2 => ?_
    refine q_asg (v := .int (n / 8 % 8 : Nat)) (ev_is (ev_op (ev_op (ev_var rfl) ev_c (rv_I ⟨by decide, by decide⟩)) (ev_op ev_c (ev_var rfl) (rv_I (.inl ⟨by decide, by decide⟩))) rv_I0) (congrArg V.int (by omega))) fun H3 e3 => ?_
    refine q_asg (v := .int (n % 8 : Nat)) (ev_is (ev_op (ev_op (ev_var rfl) (ev_op ev_c (ev_var rfl) (rv_I (.inl ⟨by decide, by decide⟩))) rv_I0) (ev_op ev_c (ev_var rfl) (rv_I (.inl ⟨by decide, by decide⟩))) rv_I0) (congrArg V.int (by omega))) fun H4 e4 => ?_
    have m4 := mp.mono (((e1.trans e2).trans e3).trans e4)
    refine q_when (b := false) (et_is (et_or (a := false) (b := false) (et_is (et_not (a := true) (et_B (ev_same2 (x := .int (n : Nat)) (xs := digV n) (fun H5 e5 Q5 q5 => by
        have m5 := m4.mono e5
        obtain ⟨dx, ho⟩ := id m5
        exact ev_prop (ev_var rfl) ho (spv_get (v := .int (n : Nat)) ho (by simp [List.lookup])) H5 (Ex.refl _) Q5 q5) (eu_dig (ev_var rfl) m4 hn) (ev_var rfl) (eu_tup (vs := digV n) (ea_cons (ev_var rfl) (ea_cons (ev_var rfl) (ea_cons (ev_var rfl) ea_nil))) (by show 3 ≤ 100000; decide)) (fun _ => .int 1 _) (by show 3 ≤ 1000; decide) (fun H x m => by
        unfold digV at m
        simp only [List.mem_cons, List.not_mem_nil, or_false] at m
        rcases m with rfl | rfl | rfl <;> exact .int 0 _)))) rfl) fun _ => et_is (et_not (a := true) (et_B (ev_sameV (v := .str (shown n)) (ev_strM (ev_var rfl) m4 hn) (ev_var rfl) fun _ => .str 2 _))) rfl) rfl) (fun z => nomatch z) fun _ H5 e5 => ?_
    have m5 := m4.mono e5
    have up : ∀ {m : Nat}, m ≤ 100 → m ≤ 100000 := fun h => Nat.le_trans h (by decide)
    refine q_when (b := false) (et_not (a := true) (et_B (ev_sameV (v := .str (repS n)) (ev_reprM (ev_var rfl) m5 hn) (ev_is (ev_op (ev_op (ev_op (ev_op ev_c (ev_strI (ev_var rfl) (small_dig (by omega))) (rv_addS (up l1))) (ev_strI (ev_var rfl) (small_dig (by omega))) (rv_addS (up l2))) (ev_strI (ev_var rfl) (small_dig (by omega))) (rv_addS (up l3))) ev_c (rv_addS (up l4))) (congrArg V.str du)) fun _ => .str 2 _))) (fun z => nomatch z) fun _ H6 e6 => ?_
    have m6 := m5.mono e6
    refine q_when (b := false) (et_not (a := true) (et_B (ev_sameL (k := 1) (xs := [.int (ones n : Nat), .bl (((n : Nat) : Int) != 0)]) (el_lst (vs := [.int (ones n : Nat), .bl (((n : Nat) : Int) != 0)]) (ea_cons (ev_lenM (ev_var rfl) m6 hn) (ea_cons (ev_boolM (ev_var rfl) m6) ea_nil)) (by show 2 ≤ 100000; decide)) (fun H7 e7 => el_lst (vs := [.int (ones n : Nat), .bl (((n : Nat) : Int) != 0)]) (ea_cons (ev_is (ev_op ev_c (ev_count (K := K) (ev_var rfl) ev_c) rv_I0) (congrArg V.int co)) (ea_cons (ev_is (ev_op (ev_var rfl) ev_c rv_I0) (congrArg V.bl (by
        by_cases z : n = 0
        · subst z; rfl
        · rw [decide_eq_true (show ((n : Nat) : Int) > 0 by omega)]
          exact (bne_iff_ne.mpr (show ((n : Nat) : Int) ≠ 0 by omega)).symm))) ea_nil)) (by show 2 ≤ 100000; decide)) (by show 2 ≤ 1000; decide) (fun H x m => by
        simp only [List.mem_cons, List.not_mem_nil, or_false] at m
        rcases m with rfl | rfl
        · exact .int 1 _
        · exact .bl 1 _)))) (fun z => nomatch z) fun _ H7 e7 => ?_
    have m7 := m6.mono e7
    have e07 := (((((e1.trans e2).trans e3).trans e4).trans e5).trans e6).trans e7
    refine q_asgUn (a := a) (n := n) (s := shown n) ev_c (ev_var rfl) (ev_var rfl) (el_lst (vs := [.int (n : Nat)]) (ea_cons (ev_var rfl) ea_nil) (by show 1 ≤ 100000; decide)) ev_c (em_mode (ev_is (ev_op ev_c (ev_var rfl) rv_I0) (congrArg V.int (by omega))) (by omega)) fun pl pm l H8 e8 q8 pm8 ql => ?_
    have m8 := m7.mono e8
    exact s_ret (v := .bl true) (ev_andV (a := true) (ev_eqM (K := K) (ev_var rfl) m8 (em_mode (ev_var rfl) hn) (fun _ q m mq => tyx_mode T mq) T.nf_Mode) fun _ => ev_eqNil (K := K) (el_is (el_lcL (K := K) (xs := [V.non, .int (n : Nat), .str (shown n), .ref pl, .bl true, .ref pm]) (fun _ => false) (fun _ => .int 1) (ev_var rfl) (sq_of ql) (by show 6 ≤ 40000; decide) (fun _ => rfl) (fun i x H9 e9 hx => et_test (ev_eqB (K := K) (ev_var rfl) (m8.mono e9) (ev_var rfl) (un_no T hn (e9 _ _ q8) (pm8.mono e9) hx) (fun _ _ q m mq => tyx_mode T mq) T.nf_Mode)) (fun _ _ _ _ _ z => nomatch z)) rfl) fun H9 e9 => el_lst (vs := []) ea_nil (by show 0 ≤ 100000; decide)) fun H9 e9 => k H9 ((e07.trans e8).trans e9)
end
end KD
set_option Elab.async false
set_option linter.all false
set_option maxRecDepth 100000
set_option maxHeartbeats 4000000
namespace KD
open PySem PySem.Spec PyProof.Rows L2 Evl
local macro_rules | `(tactic| walk_at "ev") => `(tactic| repeat' (first | exact ev_c | exact ev_var rfl | exact rv_I0 | refine' rv_I ?_ | refine' rv_eq ?_ | refine' rv_ne ?_ | refine' ev_op ?_ ?_ ?_ | exact ea_nil | refine' ea_cons ?_ ?_ | refine' et_test ?_ | refine' et_B ?_ | refine' et_not ?_ | refine' ev_notV ?_))

open PySem LamX
/-- the bag's cells stay the same list -/
def SameC (p : Addr) (H H' : Hp) : Prop := ∀ l a r s, H p = some (.dK (bagK l a r s)) → ∃ a' r' s', H' p = some (.dK (bagK l a' r' s'))
theorem bagK_inj {l l' : Addr} {a a' : Nat} {r s r' s' : Int} (h : bagK l a r s = bagK l' a' r' s') : l = l' := by
  unfold bagK at h
  injection h with h
  injection h with _ h
  injection h
theorem cells_of {p l : Addr} {H H' : Hp} {a a' : Nat} {r s r' s' : Int} (h : H p = some (.dK (bagK l a r s))) (h' : H' p = some (.dK (bagK l a' r' s'))) : SameC p H H' := fun l2 a2 r2 s2 e => by
  rw [h] at e
  injection e with e
  injection e with e
  rw [← bagK_inj e]
  exact ⟨_, _, _, h'⟩
def spDrawF : Sp := fun vs H Q _ => ∃ (p : Addr) (m : Nat), vs = [.ref p, .int m] ∧ BagAt H p ∧ 0 < m ∧ m ≤ 1000 ∧ ∀ (d : Nat) H', d < m → ExB p H H' → BagAt H' p → SameC p H H' → Q (.int d) H'
section
variable {P : Program} {w : World} {K : PySem.W.Frag} {mg : Str → Option Value} {base : Heap} {a : Ads}
theorem ok_drawF (T : Txt w K mg a) : FnOk P w K mg base CX0 1 a.f__law_draw a.d__law_draw ["_law_bag_here", "_law_limit"] spDrawF := by
  refine T.fn__law_draw.ok sc__law_draw (fun vs H Q E h => ?_) (fun cdv A outer s H vs Q E hr h => ?_)
  · obtain ⟨_, _, rfl, _⟩ := h
    rfl
  · obtain ⟨p, m, rfl, ⟨l, ns, at0, rest0, st, hp, hl, lp, hat, hlen, hr0, hs0, hs1⟩, hm0, hm, k⟩ := h
    have hu := hu_of hr
    have hm1 : (0 : Int) < (m : Int) := by omega
    refine ⟨_, (pss_cons (ps_while PassesOwn.never (PW.pt (pw_and (pt_cmpR op_lt (pe_dget hu (pv 0) pe_str (fun _ _ => rfl)) pe_int (nomark _)) (pw_and1 (pt_cmpR op_lt (pe_dget hu (pv 0) pe_str (fun _ _ => rfl)) (pe_callB call_len_seq (by rfl) T.b_len PySem.boot_len (pa_cons (pe_dget hu (pv 0) pe_str (fun _ _ => rfl)) pa_nil)) (nomark _))))) (pss_cons (ps_set (i := 2) sc__law_draw.nd rfl (Or.inl rfl) (pe_callB call_abs (by rfl) T.b_abs (by decide +kernel) (pa_cons (pe_ix ix_list (pe_dget hu (pv 0) pe_str (fun _ _ => rfl)) (pe_dget hu (pv 0) pe_str (fun _ _ => rfl)) (fun _ _ => rfl)) pa_nil)))
    (pss_cons (ps_dput hu (pv 0) pe_str (pe_op op_add (pe_dget hu (pv 0) pe_str (fun _ _ => rfl)) pe_int) rfl)
    (pss_cons (ps_if (pt_cmpR op_lt (pv 2) (pe_op op_pow pe_int pe_int) (nomark _)) (pss_cons (ps_set (i := 3) sc__law_draw.nd rfl (Or.inl rfl) (pe_op op_mod (pe_callTy call_int1 (by rfl) T.b_int (by decide +kernel) (pa_cons (pe_op op_add (pe_op op_pow (pe_op op_add (pv 2) pe_int) pe_int) (pe_op op_mul (pe_dget hu (pv 0) pe_str (fun _ _ => rfl)) (pe_op op_add (pe_dget hu (pv 0) pe_str (fun _ _ => rfl)) pe_int))) pa_nil)) pe_int))
    (pss_one (ps_ret (pe_op op_mod (pv 3) (pv 1))))) pss_nil)
    (pss_one (ps_dput hu (pv 0) pe_str (pv 2) rfl))))))
    (pss_cons (ps_if (pt_cmpR op_ge (pe_dget hu (pv 0) pe_str (fun _ _ => rfl)) pe_int (nomark _)) (pss_cons (ps_set (i := 4) sc__law_draw.nd rfl (Or.inl rfl) (pe_op op_mod (pe_callTy call_int1 (by rfl) T.b_int (by decide +kernel) (pa_cons (pe_dget hu (pv 0) pe_str (fun _ _ => rfl)) pa_nil)) (pv 1)))
    (pss_cons (ps_dput hu (pv 0) pe_str (pe_op op_fdiv (pe_dget hu (pv 0) pe_str (fun _ _ => rfl)) (pv 1)) rfl)
    (pss_one (ps_ret (pv 4))))) pss_nil)
    (pss_cons (ps_dput hu (pv 0) pe_str (pe_op op_mod (pe_callTy call_int1 (by rfl) T.b_int (by decide +kernel) (pa_cons (pe_op op_add (pe_op op_mul (pe_dget hu (pv 0) pe_str (fun _ _ => rfl)) pe_int) pe_int) pa_nil)) pe_int) rfl)
    (pss_one (ps_ret (pe_op op_mod (pe_op op_mod (pe_callTy call_int1 (by rfl) T.b_int (by decide +kernel) (pa_cons (pe_op op_pow (pe_dget hu (pv 0) pe_str (fun _ _ => rfl)) pe_int) pa_nil)) pe_int) (pv 1))))))), ?_⟩
    have fin : ∀ (H1 : Hp) (x : Int) (b : Nat) (r s' : Int), ExB p H H1 → H1 p = some (.dK (bagK l b r s')) → b ≤ ns.length → 0 ≤ r → 0 ≤ s' → s' < 2147483647 → 0 ≤ x → x < m → Q (.int x) H1 := fun H1 x b r s' e h hb hr h0 h1 hx hx2 => by
      have ex : x = (x.toNat : Nat) := by omega
      rw [ex]
      exact k x.toNat H1 (by omega) e ⟨l, ns, b, r, s', h, e _ _ hl lp, lp, hb, hlen, hr, h0, h1⟩ (cells_of hp h)
    have h18 : (10 : Int) ^ (18 : Int).toNat = 1000000000000000000 := by decide
    let W : Nat → L2.St → Hp → Prop := fun mm σ' H' => ∃ (b : Nat) (r : Int) (o2 o3 o4 : Option V), mm = ns.length - b ∧ σ' = [some (.ref p), some (.int (m : Nat)), o2, o3, o4] ∧ ExB p H H' ∧ H' p = some (.dK (bagK l b r st)) ∧ b ≤ ns.length ∧ 0 ≤ r
    refine q_while W (ns.length - at0) ⟨at0, rest0, _, _, _, rfl, rfl, ExB.of (Ex.refl H), hp, hat, hr0⟩ fun mm σ' H' q => ?_
    obtain ⟨b, r, o2, o3, o4, rfl, rfl, e, hp', hb, hr'⟩ := q
    have hl' := e _ _ hl lp
    refine ⟨_, et_and (et_test (ev_op (ev_dget (ev_var rfl) ev_c hp' bag_rest) ev_c rv_I0)) (fun _ => et_test (ev_op (ev_dget (ev_var rfl) ev_c hp' bag_at) (ev_lenS (K := K) (ev_dget (ev_var rfl) ev_c hp' bag_cells) (sq_of hl')) rv_I0)), fun hb2 H1 e1 => ?_, fun _ H1 e1 => ?_⟩
    · have hlt : b < ns.length := by
        have := of_decide_eq_true (Bool.and_eq_true_iff.mp hb2).2
        rw [List.length_map] at this
        omega
      have hc : atI (ns.map V.int) ((b : Nat) : Int) = some (.int ns[b]) := atI_nat (by simp [hlt])
      generalize ns[b] = c at hc
      have hp1 := e1 _ _ hp'
      have hl1 := e1 _ _ hl'
      refine ⟨fun σ2 H2 => ∃ m', m' < ns.length - b ∧ W m' σ2 H2, fun σ2 H2 h => h, ?_⟩
      refine q_asg (v := .int (if c < 0 then -c else c)) (ev_abs (ev_op (ev_dget (ev_var rfl) ev_c hp1 bag_cells) (ev_dget (ev_var rfl) ev_c hp1 bag_at) (rv_ixL (K := K) (sq_of hl1) hc))) fun H2 e2 => ?_
      have c0 : 0 ≤ (if c < 0 then -c else c) := by split <;> omega
      generalize (if c < 0 then -c else c) = z at c0
      have hp2 := e2 _ _ hp1
      refine q_dputS (v := .int ((b + 1 : Nat) : Int)) (ev_is (ev_op (ev_dget (ev_var rfl) ev_c hp2 bag_at) ev_c rv_I0) (by rw [Int.natCast_add] <;> rfl)) (ev_var rfl) ev_c hp2 (by show 4 < 1000; decide) fun H3 e3 => ?_
      rw [put_at]
      have e4 : ExB p H (upd H3 p (.dK (bagK l (b + 1) r st))) := fun d o hd ne => by rw [upd_ne ne]; exact ((e1.trans e2).trans e3) _ _ (e _ _ hd ne)
      have hp4 : upd H3 p (.dK (bagK l (b + 1) r st)) p = some (.dK (bagK l (b + 1) r st)) := upd_same
      generalize upd H3 p (.dK (bagK l (b + 1) r st)) = H4 at e4 hp4
      refine q_when (et_test (ev_op (ev_var rfl) (ev_op ev_c ev_c (rv_I ⟨by decide, by decide, by decide⟩)) rv_I0)) (fun hz H5 e5 => ?_) (fun hz H5 e5 => ?_)
      · have hz := of_decide_eq_true hz
        rw [h18] at hz
        have hp5 := e5 _ _ hp4
        refine q_asg (v := .int (((z + 3) ^ (3 : Int).toNat + st * (((b + 1 : Nat) : Int) + 1)) % 2147483629)) (ev_op (ev_int (ev_op (ev_op (ev_op (ev_var rfl) ev_c rv_I0) ev_c (rv_I ⟨by decide, by decide, by omega⟩)) (ev_op (ev_dget (ev_var rfl) ev_c hp5 bag_state) (ev_op (ev_dget (ev_var rfl) ev_c hp5 bag_at) ev_c rv_I0) (rv_I (.inl ⟨by omega, by omega⟩))) rv_I0)) ev_c (rv_I (by decide))) fun H6 e6 => ?_
        refine s_ret (ev_op (ev_var rfl) (ev_var rfl) (rv_I (by omega))) fun H7 e7 => ?_
        exact fin H7 _ (b + 1) r st (e4.trans (ExB.of ((e5.trans e6).trans e7))) (e7 _ _ (e6 _ _ hp5)) (by omega) hr' hs0 hs1 (Int.emod_nonneg _ (by omega)) (Int.emod_lt_of_pos _ hm1)
      · have hp5 := e5 _ _ hp4
        refine q_dput (v := .int z) (ev_var rfl) (ev_var rfl) ev_c hp5 (by show 4 < 1000; decide) fun H6 e6 => ?_
        rw [put_rest]
        exact ⟨ns.length - (b + 1), by omega, b + 1, z, _, _, _, rfl, rfl, fun d o hd ne => by rw [upd_ne ne]; exact (e5.trans e6) _ _ (e4 _ _ hd ne), upd_same, by omega, c0⟩
    · have hp1 := e1 _ _ hp'
      refine q_when (et_test (ev_op (ev_dget (ev_var rfl) ev_c hp1 bag_rest) ev_c rv_I0)) (fun _ H2 e2 => ?_) (fun _ H2 e2 => ?_)
      · have hp2 := e2 _ _ hp1
        refine q_asg (v := .int (r % m)) (ev_op (ev_int (ev_dget (ev_var rfl) ev_c hp2 bag_rest)) (ev_var rfl) (rv_I (by omega))) fun H3 e3 => ?_
        have hp3 := e3 _ _ hp2
        refine q_dputS (v := .int (r / m)) (ev_op (ev_dget (ev_var rfl) ev_c hp3 bag_rest) (ev_var rfl) (rv_I ⟨by omega, by omega⟩)) (ev_var rfl) ev_c hp3 (by show 4 < 1000; decide) fun H4 e4 => ?_
        rw [put_rest]
        refine s_ret (v := .int (r % m)) (ev_var rfl) fun H5 e5 => ?_
        exact fin H5 _ b (r / m) st (e.trans (fun d o hd ne => e5 _ _ (by rw [upd_ne ne]; exact (((e1.trans e2).trans e3).trans e4) _ _ hd))) (e5 _ _ upd_same) hb (Int.ediv_nonneg hr' (by omega)) hs0 hs1 (Int.emod_nonneg _ (by omega)) (Int.emod_lt_of_pos _ hm1)
      · have hp2 := e2 _ _ hp1
        refine q_dputS (v := .int ((st * 48271 + 13) % 2147483647)) (ev_op (ev_int (ev_op (ev_op (ev_dget (ev_var rfl) ev_c hp2 bag_state) ev_c (rv_I (.inl ⟨by omega, by omega⟩))) ev_c rv_I0)) ev_c (rv_I (by decide))) (ev_var rfl) ev_c hp2 (by show 4 < 1000; decide) fun H3 e3 => ?_
        rw [put_state]
        have n0 : 0 ≤ (st * 48271 + 13) % 2147483647 := Int.emod_nonneg _ (by decide)
        have n1 : (st * 48271 + 13) % 2147483647 < 2147483647 := Int.emod_lt_of_pos _ (by decide)
        generalize (st * 48271 + 13) % 2147483647 = s2 at n0 n1
        refine s_ret (ev_op (ev_op (ev_int (ev_op (ev_dget (ev_var rfl) ev_c upd_same bag_state) ev_c (rv_I ⟨by decide, by decide, by omega⟩))) ev_c (rv_I (by decide))) (ev_var rfl) (rv_I (by omega))) fun H4 e4 => ?_
        exact fin H4 _ b r s2 (e.trans (fun d o hd ne => e4 _ _ (by rw [upd_ne ne]; exact ((e1.trans e2).trans e3) _ _ hd))) (e4 _ _ upd_same) hb hr' n0 n1 (Int.emod_nonneg _ (by omega)) (Int.emod_lt_of_pos _ hm1)
end
/-- the bag at p, its cells at l -/
def BagL (H : Hp) (p l : Addr) : Prop := ∃ (ns : List Int) (at_ : Nat) (rest state : Int), H p = some (.dK (bagK l at_ rest state)) ∧ H l = some (.lst (ns.map V.int)) ∧ l ≠ p ∧ at_ ≤ ns.length ∧ ns.length ≤ 63 ∧ 0 ≤ rest ∧ 0 ≤ state ∧ state < 2147483647
theorem BagL.bag {H : Hp} {p l : Addr} (h : BagL H p l) : BagAt H p := let ⟨ns, a, r, s, q⟩ := h; ⟨l, ns, a, r, s, q⟩
theorem BagAt.fix {H : Hp} {p : Addr} (h : BagAt H p) : ∃ l, BagL H p l := let ⟨l, ns, a, r, s, q⟩ := h; ⟨l, ns, a, r, s, q⟩
theorem BagL.keep {H H' : Hp} {p l : Addr} (h : BagL H p l) (e : Ex H H') : BagL H' p l := let ⟨ns, a, r, s, h1, h2, q⟩ := h; ⟨ns, a, r, s, e _ _ h1, e _ _ h2, q⟩
theorem BagL.upd {H : Hp} {p l d : Addr} {o : HO} (h : BagL H p l) (n1 : p ≠ d) (n2 : l ≠ d) : BagL (upd H d o) p l := let ⟨ns, a, r, s, h1, h2, q⟩ := h; ⟨ns, a, r, s, by rw [upd_ne n1]; exact h1, by rw [upd_ne n2]; exact h2, q⟩
theorem BagL.ne {H : Hp} {p l d : Addr} (h : BagL H p l) (n : H d = none) : p ≠ d ∧ l ≠ d := let ⟨_, _, _, _, h1, h2, _⟩ := h; ⟨ne_of_none h1 n, ne_of_none h2 n⟩
theorem BagL.next {H H' : Hp} {p l : Addr} (h : BagL H p l) (b : BagAt H' p) (c : SameC p H H') : BagL H' p l := by
  obtain ⟨ns, a, r, s, h1, _⟩ := h
  obtain ⟨a', r', s', e⟩ := c l a r s h1
  obtain ⟨l2, ns2, a2, r2, s2, f1, q⟩ := b
  rw [f1] at e
  injection e with e
  injection e with e
  have := bagK_inj e
  subst this
  exact ⟨ns2, a2, r2, s2, f1, q⟩
section
variable {σ : L2.St} {H : Hp} {E : XK} {p l : Addr} {i j n m : Nat} {Q : VK} {vs : List Nat} {tl : TA}
theorem drawF_is (m : Nat) (hi : σ[i]? = some (some (.ref p))) (hb : BagL H p l) (h0 : 0 < m) (h1 : m ≤ 1000) (k : ∀ d H', d < m → ExB p H H' → BagL H' p l → Q (.int (d : Nat)) H') : tCall spDrawF [] E (tCons (tVar i) (tCons (tC (.int (m : Nat))) tNil)) σ H Q :=
  ⟨.ref p, hi, p, m, rfl, hb.bag, h0, h1, fun d H' hd e b c => k d H' hd e (hb.next b c)⟩
/-- a list of draws -/
theorem lc_draws (hw : ∀ x, wipe ((wipe σ vs).set j (some x)) vs = wipe σ vs) (hi : ∀ x, ((wipe σ vs).set j (some x))[i]? = some (some (.ref p))) (hn : n ≤ 1000) (hb : BagL H p l) (h0 : 0 < m) (h1 : m ≤ 1000)
    (k : ∀ q (ds : List Nat) H', H q = none → ds.length = n → (∀ d ∈ ds, d < m) → ExB p H H' → BagL H' p l → H' q = some (.lst (ds.map fun d => V.int (d : Nat))) → Q (.ref q) H') :
    tLc (iRng1 (tCons (tC (.int (n : Nat))) tNil)) (gName j) tYes (tCall spDrawF [] E (tCons (tVar i) (tCons (tC (.int (m : Nat))) tNil))) vs σ H Q :=
  ⟨(n : Nat), rfl, by omega, by omega, fun Dl hD => by
    obtain ⟨np, nl⟩ := hb.ne hD
    refine lc_range (lo := 0) (n := n) (fun i H' => ∃ ds : List Nat, ds.length = i ∧ (∀ d ∈ ds, d < m) ∧ ExB p H H' ∧ BagL H' p l ∧ H' Dl = some (.lst (ds.map fun d => V.int (d : Nat)))) ⟨[], rfl, (fun _ z => nomatch z), ExB.of (Ex.new hD), hb.keep (Ex.new hD), upd_same⟩ (fun t H' hi' q => ⟨hw _, (et_yes : EvT tYes _ H' true) H' (Ex.refl _) _ fun H3 e3 => ?_⟩) (fun H' q => ?_)
    · obtain ⟨ds, hl, all, e, b, hd⟩ := q
      have e := fun c o hc ne => e3 c o (e c o hc ne)
      have b := b.keep e3
      have hd := e3 _ _ hd
      show tCall spDrawF [] E (tCons (tVar i) (tCons (tC (.int (m : Nat))) tNil)) _ H3 _
      refine drawF_is m (hi _) b h0 h1 fun d H4 hdm e4 b4 => ⟨_, e4 _ _ hd (Ne.symm np), by rw [List.length_map, hl]; exact Nat.lt_of_lt_of_le (Nat.lt_of_lt_of_le hi' hn) (by decide), ds ++ [d], by rw [List.length_append, hl] <;> rfl, fun z hz => ?_, fun b' o ho ne => ?_, b4.upd np nl, by rw [upd_same, List.map_append] <;> rfl⟩
      · rcases List.mem_append.mp hz with hz | hz
        · exact all z hz
        · rw [List.mem_singleton.mp hz]
          exact hdm
      · rw [upd_ne (ne_of_none ho hD)]
        exact e4 _ _ (e _ _ ho ne) ne
    · obtain ⟨ds, hl, all, e, b, hd⟩ := q
      exact k Dl ds H' hD hl all e b hd⟩
end
end KD
set_option Elab.async false
set_option linter.all false
set_option maxRecDepth 100000
set_option maxHeartbeats 4000000
namespace KD
open PySem PySem.Spec PyProof.Rows L2 Evl
local macro_rules | `(tactic| walk_at "ev") => `(tactic| repeat' (first | exact ev_c | exact ev_var rfl | exact rv_I0 | refine' rv_I ?_ | refine' rv_eq ?_ | refine' rv_ne ?_ | refine' ev_op ?_ ?_ ?_ | exact ea_nil | refine' ea_cons ?_ ?_ | refine' et_test ?_ | refine' et_B ?_ | refine' et_not ?_ | refine' ev_notV ?_))

open PySem LamX
/-- a digit, or what stands in its place -/
inductive DV (p : Addr) (H : Hp) : V → Option Nat → Prop
  | dig (d : Nat) (h : d < 8) : DV p H (.int (d : Nat)) (some d)
  | big : DV p H (.int 8) none
  | neg : DV p H (.int (-1)) none
  | huge : DV p H (.int (10 ^ (30 : Int).toNat)) none
  | non : DV p H .non none
  | tru : DV p H (.bl true) none
  | txt : DV p H (.str "7") none
  | tup {q : Addr} (h : H q = some (.tup [.int 1])) (ne : q ≠ p) : DV p H (.ref q) none
section
variable {p : Addr} {H H' : Hp} {v : V} {k : Option Nat} {K : PySem.W.Frag}
theorem DV.st (h : DV p H v k) (e : StP p H H') : DV p H' v k := by
  cases h with
  | dig d h => exact .dig d h
  | big => exact .big
  | neg => exact .neg
  | huge => exact .huge
  | non => exact .non
  | tru => exact .tru
  | txt => exact .txt
  | tup h ne => exact .tup (e _ _ h ne (fun _ z => nomatch z)) ne
theorem DV.app {d : Addr} {xs ys : List V} (h : DV p H v k) (hd : H d = some (.lst xs)) : DV p (upd H d (.lst ys)) v k := by
  cases h with
  | dig d h => exact .dig d h
  | big => exact .big
  | neg => exact .neg
  | huge => exact .huge
  | non => exact .non
  | tru => exact .tru
  | txt => exact .txt
  | tup h ne => exact .tup (by rw [upd_ne (ne_of h hd fun z => nomatch z)]; exact h) ne
theorem DV.good {d : Nat} (h : DV p H v (some d)) : Dig v d := by
  cases h with
  | dig d h => exact ⟨rfl, h⟩
theorem DV.bad (h : DV p H v none) : BadW K H v 7 := by
  cases h with
  | big => exact .inr ⟨_, rfl, .inr (by decide)⟩
  | neg => exact .inr ⟨_, rfl, .inl (by decide)⟩
  | huge => exact .inr ⟨_, rfl, .inr (by decide)⟩
  | non => exact .inl ⟨"NoneType", _, _, fun _ _ => .base .non, kb_non.1, kb_non.2, rfl⟩
  | tru => exact .inl ⟨"bool", _, _, fun _ _ => .base (.bl _), kb_bl.1, kb_bl.2, rfl⟩
  | txt => exact .inl ⟨"str", _, _, fun _ _ => .base (.str _), kb_str.1, kb_str.2, rfl⟩
  | tup h ne => exact .inl ⟨"tuple", _, _, fun _ e => .base (.tup (e _ _ h)), kb_tup.1, kb_tup.2, rfl⟩
theorem dig_in : ∀ d : Nat, d < 8 → inV (.str (toString ((d : Nat) : Int))) (onesOf "01234567") = true ∧ ((d : Nat) : Int).natAbs.log2 < 1920 := by
  have h : ((List.range 8).all fun (d : Nat) => decide (inV (.str (toString ((d : Nat) : Int))) (onesOf "01234567") = true ∧ ((d : Nat) : Int).natAbs.log2 < 1920)) = true := by decide +kernel
  exact fun d hd => of_decide_eq_true (all_nat h d hd)
/-- what isinstance and repr tell of it -/
theorem DV.told (h : DV p H v k) : ∃ (t : String) (b : Bool), (∀ H', Ex H H' → TyX K H' v (.type t)) ∧ kitB t "bool" = some b ∧ (b = true → k.isNone = true) ∧ (b = false → ∃ s : Str, (∀ H', Ex H H' → RepV K H' v s) ∧ (!inV (.str s) (onesOf "01234567")) = k.isNone) := by
  cases h with
  | dig d h => exact ⟨"int", false, fun _ _ => .base (.int _), by decide +kernel, (fun z => nomatch z), fun _ => ⟨_, fun _ _ => .int (dig_in d h).2, by rw [(dig_in d h).1] <;> rfl⟩⟩
  | big => exact ⟨"int", false, fun _ _ => .base (.int _), by decide +kernel, (fun z => nomatch z), fun _ => ⟨_, fun _ _ => .int (by decide +kernel), by decide +kernel⟩⟩
  | neg => exact ⟨"int", false, fun _ _ => .base (.int _), by decide +kernel, (fun z => nomatch z), fun _ => ⟨_, fun _ _ => .int (by decide +kernel), by decide +kernel⟩⟩
  | huge => exact ⟨"int", false, fun _ _ => .base (.int _), by decide +kernel, (fun z => nomatch z), fun _ => ⟨_, fun _ _ => .int (by decide +kernel), by decide +kernel⟩⟩
  | non => exact ⟨"NoneType", false, fun _ _ => .base .non, by decide +kernel, (fun z => nomatch z), fun _ => ⟨_, fun _ _ => .non, by decide +kernel⟩⟩
  | tru => exact ⟨"bool", true, fun _ _ => .base (.bl _), by decide +kernel, fun _ => rfl, (fun z => nomatch z)⟩
  | txt => exact ⟨"str", false, fun _ _ => .base (.str _), by decide +kernel, (fun z => nomatch z), fun _ => ⟨_, fun _ _ => .str (by decide +kernel), by decide +kernel⟩⟩
  | tup h ne => exact ⟨"tuple", false, fun _ e => .base (.tup (e _ _ h)), by decide +kernel, (fun z => nomatch z), fun _ => ⟨_, fun _ e => .obj (d := .tuple [.int 1]) (.tup (st_of (e _ _ h)) (.cons (.int 1) .nil)) (by decide +kernel) (by decide +kernel) (by decide +kernel) (by decide +kernel), by decide +kernel⟩⟩
end
section
variable {K : PySem.W.Frag} {a : Ads} {σ : L2.St} {H : Hp} {p l : Addr} {i j n m : Nat} {Q : VK} {te t1 t2 t3 t4 t5 t6 t7 : TE} {E : XK} {v x y z : V} {k : Option Nat} {D : Ends} {tu : TS} {T : List (Addr × Str)}
theorem et_odd (hv : Ev te σ H v) (dv : DV p H v k) : EvT (tOr (tB (tCB (rIsi K) (tCons te (tCons (tC (.ty "bool")) tNil)))) (tTest (tOp (rIn K true) (tCB (rReprV K) (tCons te tNil)) (tCB (fun xs H Q => ∃ x : Str, xs = [.str x] ∧ x.length ≤ 100000 ∧ ∀ l, H l = none → Q (.ref l) (upd H l (.lst (onesOf x)))) (tCons (tC (.str "01234567")) tNil))))) σ H k.isNone := by
  obtain ⟨t, b, ty, kb, hb, hr⟩ := dv.told (K := K)
  refine et_is (et_or (a := b) (b := k.isNone) (et_B (ev_isi (ea_cons hv (ea_cons ev_c ea_nil)) (.ty _) ty (kit_ty kb))) fun hb2 => ?_) (by
    cases b with
    | true => rw [hb rfl] <;> rfl
    | false => rfl)
  obtain ⟨s, rep, no⟩ := hr hb2
  refine et_is (et_test (ev_opL (x := .str s) (xs := onesOf "01234567") (fun H1 e Q q => hv H1 e _ fun H2 e2 => ⟨v, s, rfl, rep H2 (e.trans e2), q H2 e2⟩) (fun H1 e Q q => ⟨_, rfl, by decide, fun l hl => q l _ hl (Ex.new hl) upd_same⟩) fun q H1 h1 e1 => rv_niL (K := K) (sq_of h1) rfl (by decide +kernel))) no
theorem odd7 (h1 : Ev t1 σ H (.int 8)) (h2 : Ev t2 σ H (.int (-1))) (h3 : Ev t3 σ H .non) (h4 : Ev t4 σ H (.bl true)) (h5 : Ev t5 σ H (.str "7")) (h6 : Ev t6 σ H (.int (10 ^ (30 : Int).toNat))) (h7 : EvU t7 σ H [.int 1]) (hi : σ[i]? = some (some (.ref p))) (hb : BagL H p l)
    (kk : ∀ v H', DV p H' v none → ExB p H H' → BagL H' p l → Q v H') : tOp (rIxL K) (tLst (tCons t1 (tCons t2 (tCons t3 (tCons t4 (tCons t5 (tCons t6 (tCons t7 tNil)))))))) (tCall spDrawF [] E (tCons (tVar i) (tCons (tC (.int (7 : Nat))) tNil))) σ H Q :=
  h1 H (Ex.refl H) _ fun H1 e1 => h2 H1 e1 _ fun H2 e2 => h3 H2 (e1.trans e2) _ fun H3 e3 => by
    have e03 := (e1.trans e2).trans e3
    refine h4 H3 e03 _ fun H4 e4 => h5 H4 (e03.trans e4) _ fun H5 e5 => h6 H5 ((e03.trans e4).trans e5) _ fun H6 e6 => h7 H6 (((e03.trans e4).trans e5).trans e6) _ fun q H7 hq e7 hq7 => ⟨by show 7 ≤ sizeLine; decide, fun ll hll => ?_⟩
    have e06 := ((e03.trans e4).trans e5).trans e6
    have qp := ((hb.keep e06).ne hq).1
    have b7 := hb.keep (e06.trans e7)
    obtain ⟨lp, _⟩ := b7.ne hll
    have el := Ex.new hll (o := .lst [.int 8, .int (-1), .non, .bl true, .str "7", .int (10 ^ (30 : Int).toNat), .ref q])
    refine drawF_is 7 hi (b7.keep el) (by decide) (by decide) fun d H8 hd e8 b8 => ?_
    have e08 : ExB p H H8 := fun c o hc ne => e8 _ _ (el _ _ ((e06.trans e7) _ _ hc)) ne
    have hl8 := e8 _ _ upd_same (Ne.symm lp)
    have tq : H8 q = some (.tup [.int 1]) := e8 _ _ (el _ _ hq7) (Ne.symm qp)
    have at_ : ∃ v, ([.int 8, .int (-1), .non, .bl true, .str "7", .int (10 ^ (30 : Int).toNat), .ref q] : List V)[d]? = some v ∧ DV p H8 v none := by
      match d, hd with
      | 0, _ => exact ⟨_, rfl, .big⟩
      | 1, _ => exact ⟨_, rfl, .neg⟩
      | 2, _ => exact ⟨_, rfl, .non⟩
      | 3, _ => exact ⟨_, rfl, .tru⟩
      | 4, _ => exact ⟨_, rfl, .txt⟩
      | 5, _ => exact ⟨_, rfl, .huge⟩
      | 6, _ => exact ⟨_, rfl, .tup tq (Ne.symm qp)⟩
    obtain ⟨v, hv, dv⟩ := at_
    exact ⟨ll, _, (d : Nat), v, rfl, rfl, sq_of hl8, atI_nat hv, kk v H8 dv e08 b8⟩
theorem s_drawIf (m : Nat) (hi : σ[i]? = some (some (.ref p))) (hb : BagL H p l) (h0 : 0 < m) (h1 : m ≤ 1000) (kk : ∀ d H', d < m → ExB p H H' → BagL H' p l → (d = 0 → tu D σ H') ∧ (d ≠ 0 → D.nx σ H')) :
    tIfS (tTest (tOp rEq (tCall spDrawF [] E (tCons (tVar i) (tCons (tC (.int (m : Nat))) tNil))) (tC (.int 0)))) tu tNext D σ H :=
  drawF_is m hi hb h0 h1 fun d H1 hd e1 b1 => ⟨rfl, _, rfl, by
    obtain ⟨k1, k2⟩ := kk d H1 hd e1 b1
    by_cases h : d = 0
    · rw [show decide (V.int (d : Nat) = V.int 0) = true by rw [h]; rfl]
      exact k1 h
    · rw [decide_eq_false (fun z => h (by injection z with z; omega))]
      exact k2 h⟩
theorem heard_of_good {i1 i2 i3 d1 d2 d3 : Nat} (tabs : Tabs T H) (h1 : σ[i1]? = some (some x)) (h2 : σ[i2]? = some (some y)) (h3 : σ[i3]? = some (some z)) (g1 : Dig x d1) (g2 : Dig y d2) (g3 : Dig z d3)
    (kk : ∀ t q H', ExtN H H' → Tabs T H' → H' t = some (.tup [.str "told", .ref q]) → ModeAt a H' q (64 * d1 + 8 * d2 + d3) → Q (.ref t) H') : tLam T (THeard a) (fun E => tSMeth a.f_Mode (fun vs H Q E => spOf K a (vs ++ []) H Q E) E (tC (.ref a.f_Mode)) (tCons (tVar i1) (tCons (tVar i2) (tCons (tVar i3) tNil)))) σ H Q :=
  ⟨tabs, fun H1 eN T1 => ⟨rfl, x, h1, y, h2, z, h3, x, y, z, rfl, .inl ⟨d1, d2, d3, g1, g2, g3, fun q H2 hq e2 m => ⟨by show 2 ≤ sizeLine; decide, fun t ht => kk t q _ (eN.trans (ExtN.of (e2.trans (Ex.new ht)))) (tabs_keep T1 (e2.trans (Ex.new ht))) upd_same (m.mono (Ex.new ht))⟩⟩⟩⟩
theorem heard_of_bad {i1 i2 i3 ib : Nat} (tabs : Tabs T H) (h1 : σ[i1]? = some (some x)) (h2 : σ[i2]? = some (some y)) (h3 : σ[i3]? = some (some z)) (hi : ib < 3) (good : ∀ (j : Nat) v, j < ib → [x, y, z][j]? = some v → ∃ d, Dig v d) (bad : ∀ v, [x, y, z][ib]? = some v → DV p H v none)
    (kk : ∀ t H', ExtN H H' → Tabs T H' → H' t = some (.tup [.str "mode", .str (partN ib)]) → Q (.ref t) H') : tLam T (THeard a) (fun E => tSMeth a.f_Mode (fun vs H Q E => spOf K a (vs ++ []) H Q E) E (tC (.ref a.f_Mode)) (tCons (tVar i1) (tCons (tVar i2) (tCons (tVar i3) tNil)))) σ H Q :=
  ⟨tabs, fun H1 eN T1 => ⟨rfl, x, h1, y, h2, z, h3, x, y, z, rfl, .inr ⟨ib, hi, good, fun v hv => ((bad v hv).st (StP.ofN eN)).bad, fun d H' hd e' h' => ⟨rfl, d, partN ib, rfl, h', fun t H'' ht e'' h'' => kk t H'' (eN.trans (ExtN.of (e'.trans e''))) (tabs_keep T1 (e'.trans e'')) h''⟩⟩⟩⟩
def gOf (us ws : List V) : List V := match us, ws with | [], [o, w, g] => [w, g, o] | _, _ => []
def gOfv (us ws : List Value) : List Value := match us, ws with | [], [o, w, g] => [w, g, o] | _, _ => []
theorem heard_ofK {i1 i2 i3 d1 d2 d3 : Nat} (tabs : Tabs T H) (h1 : σ[i1]? = some (some x)) (h2 : σ[i2]? = some (some y)) (h3 : σ[i3]? = some (some z)) (g1 : Dig x d1) (g2 : Dig y d2) (g3 : Dig z d3)
    (kk : ∀ t q H', ExtN H H' → Tabs T H' → H' t = some (.tup [.str "told", .ref q]) → ModeAt a H' q (64 * d1 + 8 * d2 + d3) → Q (.ref t) H') : tLam T (THeard a) (fun E => tSMethK a.f_Mode (spOf K a) gOf E (tC (.ref a.f_Mode)) (tCons (tVar i3) (tCons (tVar i1) (tCons (tVar i2) tNil)))) σ H Q :=
  ⟨tabs, fun H1 eN T1 => ⟨rfl, z, h3, x, h1, y, h2, x, y, z, rfl, .inl ⟨d1, d2, d3, g1, g2, g3, fun q H2 hq e2 m => ⟨by show 2 ≤ sizeLine; decide, fun t ht => kk t q _ (eN.trans (ExtN.of (e2.trans (Ex.new ht)))) (tabs_keep T1 (e2.trans (Ex.new ht))) upd_same (m.mono (Ex.new ht))⟩⟩⟩⟩
end
theorem kb_of {w : World} {K : PySem.W.Frag} {mg : Str → Option Value} {a : Ads} (T : Txt w K mg a) : KBinds K a.d_Mode_of ["owner", "group", "others"] ["others", "owner", "group"] gOfv gOf where
  to := fun s us ws X hl => by
    obtain ⟨oc, od, kV, doc, pm, an, cdv, ct, osl, e, lk, hcd⟩ := T.fn_Mode_of.ex
    rw [e]
    match us, ws, hl with
    | [], [o, x, g], _ => exact .of_eq rfl
  rel := fun {vs us zs ws} r1 r2 => by
    cases r1 with
    | cons _ _ => exact .nil
    | nil =>
      cases r2 with
      | nil => exact .nil
      | cons h1 t1 =>
        cases t1 with
        | nil => exact .nil
        | cons h2 t2 =>
          cases t2 with
          | nil => exact .nil
          | cons h3 t3 =>
            cases t3 with
            | nil => exact .cons h2 (.cons h3 (.cons h1 .nil))
            | cons _ _ => exact .nil
end KD
set_option Elab.async false
set_option linter.all false
set_option maxRecDepth 100000
set_option maxHeartbeats 4000000
namespace KD
open PySem PySem.Spec PyProof.Rows L2 Evl
local macro_rules | `(tactic| walk_at "ev") => `(tactic| repeat' (first | exact ev_c | exact ev_var rfl | exact rv_I0 | refine' rv_I ?_ | refine' rv_eq ?_ | refine' rv_ne ?_ | refine' ev_op ?_ ?_ ?_ | exact ea_nil | refine' ea_cons ?_ ?_ | refine' et_test ?_ | refine' et_B ?_ | refine' et_not ?_ | refine' ev_notV ?_))

open PySem LamX
abbrev qR : Str := "_law_digits_right" ++ ".<locals>." ++ "<lambda>"
abbrev qL : Str := "law" ++ ".<locals>." ++ "<lambda>"
abbrev tabsT (a : Ads) : List (Addr × Str) := [(a.PR, qR), (a.P0, qL)]
theorem tabs_uR {w : World} {K : PySem.W.Frag} {mg : Str → Option Value} {a : Ads} (T : Txt w K mg a) : ∀ p ∈ tabsT a, p.1 = a.PR → p.2 = qR := fun p m h => by
  rcases List.mem_cons.mp m with rfl | m
  · rfl
  · rw [List.mem_singleton.mp m] at h
    exact absurd h.symm T.PRP0
theorem tabs_uL {w : World} {K : PySem.W.Frag} {mg : Str → Option Value} {a : Ads} (T : Txt w K mg a) : ∀ p ∈ tabsT a, p.1 = a.P0 → p.2 = qL := fun p m h => by
  rcases List.mem_cons.mp m with rfl | m
  · exact absurd h T.PRP0
  · rw [List.mem_singleton.mp m]
section
variable {X : Cx} {K : PySem.W.Frag}
theorem call_isiE (h : X.K = K) : CallR X (.builtin "isinstance") (rIsi K) := by
  subst h
  exact call_isi
theorem call_reprVE (h : X.K = K) (gd : X.A.guards = some []) (hu : X.A.units + 64 < cLine) : CallR X (.builtin "repr") (rReprV K) := by
  subst h
  exact call_reprV gd hu
theorem ix_listE (h : X.K = K) : IxR X (rIxL K) := by
  subst h
  exact ix_list
theorem op_notIn_seqE (h : X.K = K) : OpR X (compareOp .NotIn) (rIn K true) := by
  subst h
  exact op_notIn_seq
end
theorem q_asgRaw {te : TE} {i : Nat} {D : Ends} {tz : TS} {σ : L2.St} {H : Hp} (h : te σ H fun x H1 => tz D (σ.set i (some x)) H1) : tSeq (tAsg te (gName i)) tz D σ H := h
theorem ixN_nat {n j : Nat} (h : j < n) : ixN n ((j : Nat) : Int) = some j := by
  unfold ixN
  rw [if_pos (by omega), if_pos (by omega)]
  rfl
theorem BagL.keepN {H H' : Hp} {p l : Addr} (h : BagL H p l) (e : ExtN H H') : BagL H' p l := let ⟨ns, a, r, s, h1, h2, q⟩ := h; ⟨ns, a, r, s, e _ _ h1 (fun _ z => nomatch z), e _ _ h2 (fun _ z => nomatch z), q⟩
theorem dp_ints {K : PySem.W.Frag} {H : Hp} : ∀ ns : List Nat, DpAll K H (ns.map fun n => V.int (n : Nat)) (ns.map fun n => PyData.int (n : Nat))
  | [] => .nil
  | n :: ns => .cons (.int _) (dp_ints ns)
section
variable {K : PySem.W.Frag} {a : Ads} {σ : L2.St} {H : Hp} {ta tb : TE} {E : XK} {t : Addr} {s : Str}
theorem ev_neNil {ns : List Nat} {q : Addr} (h1 : Ev ta σ H (.ref q)) (hq : H q = some (.lst (ns.map fun n => V.int (n : Nat)))) (h2 : ∀ H1, Ex H H1 → EvL tb σ H1 []) (hn : ns.length ≤ 3) : Ev (tOp (rNeD K) ta tb) σ H (.bl (!ns.isEmpty)) := fun H1 e Q k =>
  h1 H1 e _ fun H2 e2 => h2 H2 (e.trans e2) H2 (Ex.refl _) _ fun r H3 _ e3 q3 => by
    have shp : SeqAt.shaped (.list (ns.map fun n => PyData.int (n : Nat))) = true := by
      match ns, hn with
      | [], _ => rfl
      | [_], _ => rfl
      | [_, _], _ => rfl
      | [_, _, _], _ => rfl
      | _ :: _ :: _ :: _ :: _, h => exact absurd h (by simp)
    refine ⟨.list (ns.map fun n => PyData.int (n : Nat)), .list [], .lst (sq_of (((e.trans e2).trans e3) _ _ hq)) (dp_ints ns), .lst (sq_of q3) .nil, shp, by decide +kernel, ?_⟩
    have ev : PyData.eqv (.list (ns.map fun n => PyData.int (n : Nat))) (.list []) = ns.isEmpty := by
      cases ns with
      | nil => decide +kernel
      | cons n ns => rfl
    rw [ev]
    exact k H3 (e2.trans e3)
theorem ev_sameT (h1 : Ev ta σ H (.ref t)) (ht : H t = some (.tup [.str "mode", .str s])) (h2 : EvU tb σ H [.str "mode", .str s]) : Ev (tCall (spSame 1) [] E (tCons ta (tCons tb tNil))) σ H (.bl true) := fun H1 e Q k =>
  h1 H1 e _ fun H2 e2 => h2 H2 (e.trans e2) _ fun q H3 _ e3 hq => ⟨_, _, rfl, .seq (n := 0) true (((e.trans e2).trans e3) _ _ ht) hq rfl (by show 2 ≤ 1000; decide) (fun i x y hx hy => by
    rw [hx] at hy
    cases hy
    match i, hx with
    | 0, hx => cases hx; exact .str 0 _
    | 1, hx => cases hx; exact .str 0 _), fun H4 e4 => k H4 ((e2.trans e3).trans e4)⟩
end
def ksAt (kx ky kz : Option Nat) (i : Nat) : Bool := ([kx, ky, kz].getD i none).isNone
def spDigits (a : Ads) : Sp := fun vs H Q _ => ∃ p : Addr, vs = [.ref p] ∧ BagAt H p ∧ Tabs (tabsT a) H ∧ ∀ H', BagAt H' p → Tabs (tabsT a) H' → Q (.bl true) H'
section
variable {P : Program} {w : World} {K : PySem.W.Frag} {mg : Str → Option Value} {base : Heap} {a : Ads}
theorem ok_digits_right (T : Txt w K mg a) (TBR : TabB base mg a.cR a.PR) : FnG P w K mg base 12 a.f__law_digits_right a.d__law_digits_right ["_law_bag_here"] (spDigits a) := by
  obtain ⟨ocR, odR, kVR, docR, pmR, anR, ctR, oslR, eR, lkR⟩ := T.cr
  rw [eR] at lkR
  rw [eR]
  have G__law_draw : FnOk P w K mg base CX0 11 _ _ _ _ := (ok_drawF T).mono (by decide)
  have G__law_same : FnOk P w K mg base CX0 11 _ _ _ (spSame 1) := (show FnOk P w K mg base CX0 2 _ _ _ (spSame 1) from ok_sameG T 2).mono (by decide)
  have G__law_right : FnOk P w K mg base CX0 11 _ _ _ _ := (ok_right T).mono (by decide)
  have G_eq : FnOk P w K mg base CX0 11 _ _ _ _ := (ok_eq T).mono (by decide)
  have G_of : FnOk P w K mg base (L2.CX P w) 9 _ _ _ _ := (ok_of T).mono (by decide)
  refine fnG_of lkR T.cr_code sc__law_digits_right (fun vs H Q E h => ?_) fun A outer s H vs Q E gd hr h => ?_
  · obtain ⟨_, rfl, _⟩ := h
    rfl
  · obtain ⟨p, rfl, bag, tab, k⟩ := h
    have hrc : Room 11 _ := hr
    have hr11 : Room 11 _ := hr
    have hu64 : A.units + 3 + 64 < cLine := by have := hr.un; have e : A.units + 3 + 16 * 11 + 200 < cLine := this; omega
    obtain ⟨ocH, odH, kVH, docH, pmH, anH, cdvH, ctH, oslH, eH, lkH, hcdH⟩ := id T.fn__law_heard.ex
    have hbH := bd__law_heard T
    rw [eH] at lkH hbH
    refine ⟨_, (show PSs (cxOf CX0 P w K mg base n__law_digits_right "_law_digits_right" (defScope s__law_digits_right) a.f__law_digits_right (.ref a.cR) A outer s H E).nox (defBody s__law_digits_right) _ from (pss_cons (ps_set (i := 2) sc__law_digits_right.nd rfl (Or.inr rfl) (pe_lc (own := [("_law_k", 1)]) (g := gName 1) rfl sc__law_digits_right.nd (pi_range1 rfl T.b_range (pa_cons pe_int pa_nil)) (blkOk_by (own := [("_law_k", 1)]) (N := n__law_digits_right) (sc := defScope s__law_digits_right) (by decide +kernel)) (fun _ _ _ _ _ => (pg_name (i := 1) sc__law_digits_right.nd rfl (Or.inl rfl))) (fun _ _ _ _ _ => pts_nil) (fun _ _ _ _ _ => (pe_call G__law_draw hrc rfl T.mg__law_draw T.fn__law_draw.kp (bd__law_draw T) .nil pass0 (pa_cons (pv 0) (pa_cons pe_int pa_nil))))))
    (pss_cons (ps_for PassesOwn.never rfl (pi_range1 rfl T.b_range (pa_cons pe_int pa_nil)) (pg_name (i := 1) sc__law_digits_right.nd rfl (Or.inl rfl)) (pss_one (ps_if (pt_cmpR op_eq (pe_call G__law_draw hrc rfl T.mg__law_draw T.fn__law_draw.kp (bd__law_draw T) .nil pass0 (pa_cons (pv 0) (pa_cons pe_int pa_nil))) pe_int (nomark _)) (pss_one (ps_asg (pe_ix (ix_listE (K := K) rfl) (pe_lst (pa_cons pe_int (pa_cons (pe_un un_neg pe_int) (pa_cons pe_non (pa_cons pe_bl (pa_cons pe_str (pa_cons (pe_op op_pow pe_int pe_int) (pa_cons (pe_tup (pa_cons pe_int pa_nil)) pa_nil)))))))) (pe_call G__law_draw hrc rfl T.mg__law_draw T.fn__law_draw.kp (bd__law_draw T) .nil pass0 (pa_cons (pv 0) (pa_cons pe_int pa_nil))) (fun _ _ => rfl)) (pg_sub (pv 2) (pv 1) set_list))) pss_nil)))
    (pss_cons (ps_setLc (i := 3) (own := [("_law_k", 1)]) (g := gName 1) rfl sc__law_digits_right.nd rfl rfl (sw_true rfl rfl rfl (by decide +kernel)) (pi_range1 rfl T.b_range (pa_cons pe_int pa_nil)) (blkOk_by (own := [("_law_k", 1)]) (N := n__law_digits_right) (sc := defScope s__law_digits_right) (by decide +kernel)) (fun _ _ _ _ _ => (pg_name (i := 1) sc__law_digits_right.nd rfl (Or.inl rfl))) (fun _ _ _ _ _ => (pts_one (PW.pt (pw_or (pt_val (pe_callB (call_isiE (K := K) rfl) (by rfl) T.b_isinstance PyProof.Rows.boot_isinstance (pa_cons (pe_ix (ix_listE (K := K) rfl) (pv 2) (pv 1) (fun _ _ => rfl)) (pa_cons (pe_bltn (v := .ty "bool") (by rfl) T.b_bool (by decide +kernel) rfl) pa_nil)))) (pw_or1 (pt_cmpR (op_notIn_seqE (K := K) rfl) (pe_callB (call_reprVE (K := K) rfl gd hu64) (by rfl) T.b_repr PyProof.Rows.boot_repr (pa_cons (pe_ix (ix_listE (K := K) rfl) (pv 2) (pv 1) (fun _ _ => rfl)) pa_nil)) (pe_callTy (call_listStr (by rfl)) (by rfl) T.b_list (by decide +kernel) (pa_cons pe_str pa_nil)) (by rfl))))))) (fun _ _ _ _ _ => (pv 1)))
    (pss_cons (ps_asg (pv 2) (pg_unl rfl (pgs_cons (pg_name (i := 7) sc__law_digits_right.nd rfl (Or.inr rfl)) (pgs_cons (pg_name (i := 9) sc__law_digits_right.nd rfl (Or.inr rfl)) (pgs_cons (pg_name (i := 8) sc__law_digits_right.nd rfl (Or.inr rfl)) pgs_nil)))))
    (pss_cons (ps_set (i := 4) sc__law_digits_right.nd rfl (Or.inl rfl) (pe_lamcall (T := tabsT a) (TT := THeard a) rfl T.mg__law_heard T.fn__law_heard.kp lkH hcdH hbH sc__law_heard rfl (Or.inl rfl) (heard_gives T (show A.units + 3 + 100 < cLine by have := hr.un; have e : A.units + 3 + 16 * 11 + 200 < cLine := this; omega)) TBR rfl (List.mem_cons_self ..) (tabs_uR T) (k := 9) hr11 (lamS_by (show lamSB (defScope s__law_digits_right) _ = true by decide +kernel)) rfl (fun _ _ _ _ _ => rfl) (fun _ _ _ _ _ _ _ hr2 => (pe_smeth (pe_glob (v := .ref a.f_Mode) rfl T.mg_Mode rfl) T.r_Mode T.m_Mode_of (G_of.raw (bd_Mode_of T) .nil) hr2 (passes_call (takes_of rfl rfl rfl rfl) fun _ _ _ _ h => h) (pa_cons (pv 7) (pa_cons (pv 9) (pa_cons (pv 8) pa_nil)))))))
    (pss_cons (ps_if (pt_cmpR (op_neE (K := K) rfl hr.units) (pv 3) (pe_lst pa_nil) (nomark _)) (pss_one (ps_ret (pe_call G__law_same hrc rfl T.mg__law_same T.fn__law_same.kp (bd__law_same T) .nil pass0 (pa_cons (pv 4) (pa_cons (pe_tup (pa_cons pe_str (pa_cons (pe_ix (ix_listE (K := K) rfl) (pe_lst (pa_cons pe_str (pa_cons pe_str (pa_cons pe_str pa_nil)))) (pe_ix (ix_listE (K := K) rfl) (pv 3) pe_int (fun _ _ => rfl)) (fun _ _ => rfl)) pa_nil))) pa_nil))))) pss_nil)
    (pss_cons (ps_set (i := 5) sc__law_digits_right.nd rfl (Or.inl rfl) (pe_op op_add (pe_op op_add (pe_op op_mul pe_int (pv 7)) (pe_op op_mul pe_int (pv 9))) (pv 8)))
    (pss_cons (ps_set (i := 6) sc__law_digits_right.nd rfl (Or.inl rfl) (pe_lamcall (T := tabsT a) (TT := THeard a) rfl T.mg__law_heard T.fn__law_heard.kp lkH hcdH hbH sc__law_heard rfl (Or.inl rfl) (heard_gives T (show A.units + 3 + 100 < cLine by have := hr.un; have e : A.units + 3 + 16 * 11 + 200 < cLine := this; omega)) TBR rfl (List.mem_cons_self ..) (tabs_uR T) (k := 9) hr11 (lamS_by (show lamSB (defScope s__law_digits_right) _ = true by decide +kernel)) rfl (fun _ _ _ _ _ => rfl) (fun _ _ _ _ _ _ _ hr2 => (pe_smethK (pe_glob (v := .ref a.f_Mode) rfl T.mg_Mode rfl) T.r_Mode T.m_Mode_of G_of hr2 (kb_of T) (passes_call (takes_of rfl rfl rfl rfl) fun _ _ _ _ h => h) (pk_cons (pv 8) (pk_cons (pv 7) (pk_cons (pv 9) pk_nil)))))))
    (pss_one (ps_ret (pe_and (pe_cmpR op_eq (pe_ix ix_tup (pv 4) pe_int (fun _ _ => rfl)) pe_str (nomark _)) (pe_and (pe_call G__law_right hrc rfl T.mg__law_right T.fn__law_right.kp (bd__law_right T) .nil pass0 (pa_cons (pe_ix ix_tup (pv 4) pe_int (fun _ _ => rfl)) (pa_cons (pv 5) pa_nil))) (pe_and (pe_cmpR op_eq (pe_ix ix_tup (pv 6) pe_int (fun _ _ => rfl)) pe_str (nomark _)) (pe_one (pe_cmpR (op_ownBE (K := K) (op := .Eq) rfl (by intro _ _; rfl) T.m_ModeD_eqD.at_ T.m_ModeD_eqD.fn (G_eq.raw (bd_ModeD_eqD T) .nil) hrc pass0) (pe_ix ix_tup (pv 4) pe_int (fun _ _ => rfl)) (pe_ix ix_tup (pv 6) pe_int (fun _ _ => rfl)) (nomark _))))))))))))))))), ?_⟩
    obtain ⟨l, bag⟩ := bag.fix
    refine q_asgRaw (lc_draws (n := 3) (m := 8) (fun _ => rfl) (fun _ => rfl) (by decide) bag (by decide) (by decide) fun dl ds H1 hq hl all e1 bag1 hd1 => ?_)
    obtain ⟨pd, ld⟩ := bag.ne hq
    have tab1 := tabs_exB tab bag.bag e1
    refine q_forR1 (n := 3) (ea_cons ev_c ea_nil) (by decide) (fun j σ' H' => ∃ o1 vs, σ' = [some (.ref p), o1, some (.ref dl), none, none, none, none, none, none, none] ∧ BagL H' p l ∧ Tabs (tabsT a) H' ∧ H' dl = some (.lst vs) ∧ vs.length = 3 ∧ ∀ v ∈ vs, ∃ k, DV p H' v k) (fun H2 e2 => ⟨_, _, rfl, bag1.keep e2, tabs_keep tab1 e2, e2 _ _ hd1, by rw [List.length_map, hl], fun v hv => ?_⟩) (fun j σ' H2 hj q => ?_) (fun σ' H2 q => ?_)
    · obtain ⟨d, hd, rfl⟩ := List.mem_map.mp hv
      exact ⟨_, .dig d (all d hd)⟩
    · obtain ⟨o1, vs, rfl, bag2, tab2, hd2, l2, dv⟩ := q
      have hj3 : j < 3 := by omega
      refine s_drawIf 6 rfl bag2 (by decide) (by decide) fun d H3 hd e3 bag3 => ⟨fun _ => ?_, fun _ => ?_⟩
      · have tab3 := tabs_exB tab2 bag2.bag e3
        have hd3 := e3 _ _ hd2 (Ne.symm pd)
        refine odd7 (K := K) (p := p) (l := l) ev_c (ev_un ev_c ru_neg) ev_c ev_c ev_c (ev_op ev_c ev_c (rv_I ⟨by decide, by decide, by decide⟩)) (eu_tup (vs := [.int 1]) (ea_cons ev_c ea_nil) (by show 1 ≤ 100000; decide)) rfl bag3 fun v H4 dvv e4 bag4 => ?_
        have hd4 := e4 _ _ hd3 (Ne.symm pd)
        have st : StP p H2 H4 := (StP.ofB e3).trans (StP.ofB e4)
        refine ⟨.ref dl, rfl, .int (j : Nat), rfl, dl, vs, (j : Nat), j, rfl, rfl, hd4, ixN_nat (by omega), _, _, rfl, bag4.upd pd ld, tab_app (tabs_exB tab3 bag3.bag e4) hd4, upd_same, by rw [List.length_set]; exact l2, fun u hu => ?_⟩
        rcases List.mem_or_eq_of_mem_set hu with hu | rfl
        · obtain ⟨k, h⟩ := dv u hu
          exact ⟨k, (h.st st).app hd4⟩
        · exact ⟨_, dvv.app hd4⟩
      · exact ⟨_, _, rfl, bag3, tabs_exB tab2 bag2.bag e3, e3 _ _ hd2 (Ne.symm pd), l2, fun v hv => let ⟨k, h⟩ := dv v hv; ⟨k, h.st (StP.ofB e3)⟩⟩
    · obtain ⟨o1, vs, rfl, bag2, tab2, hd2, l2, dv⟩ := q
      obtain ⟨x, y, z, rfl⟩ : ∃ x y z, vs = [x, y, z] := by
        match vs, l2 with
        | [x, y, z], _ => exact ⟨x, y, z, rfl⟩
      obtain ⟨kx, dx⟩ := dv x (by simp)
      obtain ⟨ky, dy⟩ := dv y (by simp)
      obtain ⟨kz, dz⟩ := dv z (by simp)
      refine q_asgRaw ((el_lcR1 (n := 3) (fun i => ksAt kx ky kz i) (fun i => .int (i : Nat)) (ea_cons ev_c ea_nil) (by decide) (fun _ => rfl) (fun i H3 e3 hi => ?_) (fun i H3 e3 hi _ => ev_var rfl) : EvL _ _ H2 _) H2 (Ex.refl _) _ fun wl H3 hwl e3 hw3 => ?_)
      · match i, hi with
        | 0, _ => exact et_odd (K := K) (p := p) (ev_op (ev_var rfl) (ev_var rfl) (rv_ixL (K := K) (sq_of (e3 _ _ hd2)) rfl)) (dx.st (StP.of e3))
        | 1, _ => exact et_odd (K := K) (p := p) (ev_op (ev_var rfl) (ev_var rfl) (rv_ixL (K := K) (sq_of (e3 _ _ hd2)) rfl)) (dy.st (StP.of e3))
        | 2, _ => exact et_odd (K := K) (p := p) (ev_op (ev_var rfl) (ev_var rfl) (rv_ixL (K := K) (sq_of (e3 _ _ hd2)) rfl)) (dz.st (StP.of e3))
        | n + 3, h => exact absurd h (by omega)
      have hd3 := e3 _ _ hd2
      have bag3 := bag2.keep e3
      have tab3 := tabs_keep tab2 e3
      have dx := dx.st (StP.of e3)
      have dy := dy.st (StP.of e3)
      have dz := dz.st (StP.of e3)
      have two : (∃ (ib : Nat) (ns : List Nat), ib < 3 ∧ ns.length ≤ 2 ∧ given (3 : Int).toNat (fun i => ksAt kx ky kz i) (fun i => V.int (i : Nat)) = (ib :: ns).map (fun n => V.int (n : Nat)) ∧ (∀ (j : Nat) v, j < ib → [x, y, z][j]? = some v → ∃ d, Dig v d) ∧ (∀ v, [x, y, z][ib]? = some v → DV p H3 v none)) ∨
          (∃ d1 d2 d3, Dig x d1 ∧ Dig y d2 ∧ Dig z d3 ∧ given (3 : Int).toNat (fun i => ksAt kx ky kz i) (fun i => V.int (i : Nat)) = ([] : List Nat).map (fun n => V.int (n : Nat))) := by
        have no : ∀ (j : Nat) (v : V), j < 0 → [x, y, z][j]? = some v → ∃ d, Dig v d := fun j v h => absurd h (Nat.not_lt_zero _)
        match kx, ky, kz, dx, dy, dz with
        | none, none, none, dx, _, _ => exact .inl ⟨0, [1, 2], by decide, by decide, rfl, no, fun v hv => by cases hv; exact dx⟩
        | none, none, some _, dx, _, _ => exact .inl ⟨0, [1], by decide, by decide, rfl, no, fun v hv => by cases hv; exact dx⟩
        | none, some _, none, dx, _, _ => exact .inl ⟨0, [2], by decide, by decide, rfl, no, fun v hv => by cases hv; exact dx⟩
        | none, some _, some _, dx, _, _ => exact .inl ⟨0, [], by decide, by decide, rfl, no, fun v hv => by cases hv; exact dx⟩
        | some d1, none, none, dx, dy, _ => exact .inl ⟨1, [2], by decide, by decide, rfl, fun j v h hv => by
            obtain rfl : j = 0 := by omega
            cases hv; exact ⟨_, dx.good⟩, fun v hv => by cases hv; exact dy⟩
        | some d1, none, some _, dx, dy, _ => exact .inl ⟨1, [], by decide, by decide, rfl, fun j v h hv => by
            obtain rfl : j = 0 := by omega
            cases hv; exact ⟨_, dx.good⟩, fun v hv => by cases hv; exact dy⟩
        | some d1, some d2, none, dx, dy, dz => exact .inl ⟨2, [], by decide, by decide, rfl, fun j v h hv => by
            match j, h, hv with
            | 0, _, hv => cases hv; exact ⟨_, dx.good⟩
            | 1, _, hv => cases hv; exact ⟨_, dy.good⟩, fun v hv => by cases hv; exact dz⟩
        | some d1, some d2, some d3, dx, dy, dz => exact .inr ⟨d1, d2, d3, dx.good, dy.good, dz.good, rfl⟩
      refine ⟨.ref dl, rfl, dl, [x, y, z], rfl, sq_of hd3, rfl, _, _, rfl, _, _, rfl, _, _, rfl, rfl, ?_⟩
      rcases two with ⟨ib, ns, hib, hns, eqW, good, bad⟩ | ⟨d1, d2, d3, g1, g2, g3, eqW⟩
      · rw [eqW] at hw3
        refine q_asgRaw (heard_of_bad (K := K) (a := a) tab3 rfl rfl rfl hib good bad fun t H4 e4 tab4 ht => ?_)
        have hw4 := e4 _ _ hw3 (fun _ z => nomatch z)
        have bag4 := bag3.keepN e4
        refine q_when (b := true) (et_test (ev_neNil (K := K) (ns := ib :: ns) (ev_var rfl) hw4 (fun H5 e5 => el_lst (vs := []) ea_nil (by show 0 ≤ 100000; decide)) (by rw [List.length_cons]; omega))) (fun _ H5 e5 => ?_) (fun z => nomatch z)
        have nm : atI [V.str "owner", .str "group", .str "others"] ((ib : Nat) : Int) = some (.str (partN ib)) := by
          match ib, hib with
          | 0, _ => rfl
          | 1, _ => rfl
          | 2, _ => rfl
        exact s_ret (v := .bl true) (ev_sameT (s := partN ib) (ev_var rfl) (e5 _ _ ht) (eu_tup (vs := [.str "mode", .str (partN ib)]) (ea_cons ev_c (ea_cons (ev_opL1 (xs := [V.str "owner", .str "group", .str "others"]) (el_lst (vs := [V.str "owner", .str "group", .str "others"]) (ea_cons ev_c (ea_cons ev_c (ea_cons ev_c ea_nil))) (by show 3 ≤ 100000; decide)) (fun H6 e6 => ev_op (ev_var rfl) ev_c (rv_ixL (K := K) (sq_of (e6 _ _ (e5 _ _ hw4))) (show atI _ ((0 : Nat) : Int) = _ from atI_nat rfl))) fun q H6 hq6 _ => rv_ixL (K := K) (sq_of hq6) nm) ea_nil)) (by show 2 ≤ 100000; decide))) fun H6 e6 => k H6 (bag4.keep (e5.trans e6)).bag (tabs_keep tab4 (e5.trans e6))
      · rw [eqW] at hw3
        refine q_asgRaw (heard_of_good (K := K) (a := a) tab3 rfl rfl rfl g1 g2 g3 fun t q H4 e4 tab4 ht mq => ?_)
        have hw4 := e4 _ _ hw3 (fun _ z => nomatch z)
        have bag4 := bag3.keepN e4
        refine q_when (b := false) (et_test (ev_neNil (K := K) (ns := []) (ev_var rfl) hw4 (fun H5 e5 => el_lst (vs := []) ea_nil (by show 0 ≤ 100000; decide)) (by decide))) (fun z => nomatch z) (fun _ H5 e5 => ?_)
        obtain ⟨rfl, l1⟩ := id g1
        obtain ⟨rfl, l2⟩ := id g2
        obtain ⟨rfl, l3⟩ := id g3
        refine q_asg (v := .int (64 * d1 + 8 * d2 + d3 : Nat)) (ev_is (ev_op (ev_op (ev_op ev_c (ev_var rfl) (rv_I (.inl ⟨by decide, by omega⟩))) (ev_op ev_c (ev_var rfl) (rv_I (.inl ⟨by decide, by omega⟩))) rv_I0) (ev_var rfl) rv_I0) (congrArg V.int (by omega))) fun H6 e6 => ?_
        have e46 := e5.trans e6
        have tab6 := tabs_keep tab4 e46
        refine q_asgRaw (heard_ofK (K := K) (a := a) tab6 rfl rfl rfl g1 g2 g3 fun t' q' H7 e7 tab7 ht' mq' => ?_)
        have ht7 := e7 _ _ (e46 _ _ ht) (fun _ z => nomatch z)
        have mq7 := (mq.mono e46).sd (Sd.ofN e7)
        have bag7 := (bag4.keep e46).keepN e7
        exact s_ret (v := .bl true) (ev_andV (a := true) (ev_is (ev_op (ev_op (ev_var rfl) ev_c (rv_ixT (K := K) (st_of ht7) rfl)) ev_c (rv_eq rfl)) (by simp)) fun _ => ev_andV (a := true) (ev_call (vs := [.ref q, .int (64 * d1 + 8 * d2 + d3 : Nat)]) (ea_cons (ev_op (ev_var rfl) ev_c (rv_ixT (K := K) (st_of ht7) rfl)) (ea_cons (ev_var rfl) ea_nil)) fun H8 e8 Q8 q8 E8 => ⟨q, 64 * d1 + 8 * d2 + d3, rfl, mq7.mono e8, by omega, q8⟩) fun _ => ev_andV (a := true) (ev_is (ev_op (ev_op (ev_var rfl) ev_c (rv_ixT (K := K) (st_of ht') rfl)) ev_c (rv_eq rfl)) (by simp)) fun _ => ev_eqB (K := K) (ev_op (ev_var rfl) ev_c (rv_ixT (K := K) (st_of ht7) rfl)) mq7 (ev_op (ev_var rfl) ev_c (rv_ixT (K := K) (st_of ht') rfl)) (.inl ⟨q', _, rfl, mq', (decide_eq_true rfl).symm⟩) (fun _ _ q m mq => tyx_mode T mq) T.nf_Mode) fun H8 e8 => k H8 (bag7.keep e8).bag (tabs_keep tab7 e8)
end
end KD
set_option Elab.async false
set_option linter.all false
set_option maxRecDepth 100000
set_option maxHeartbeats 4000000
namespace KD
open PySem PySem.Spec PyProof.Rows L2 Evl
local macro_rules | `(tactic| walk_at "ev") => `(tactic| repeat' (first | exact ev_c | exact ev_var rfl | exact rv_I0 | refine' rv_I ?_ | refine' rv_eq ?_ | refine' rv_ne ?_ | refine' ev_op ?_ ?_ ?_ | exact ea_nil | refine' ea_cons ?_ ?_ | refine' et_test ?_ | refine' et_B ?_ | refine' et_not ?_ | refine' ev_notV ?_))

open PySem LamX
def gM (us ws : List V) : List V := match us, ws with | [x], [f] => [x, f] | _, _ => []
def gMv (us ws : List Value) : List Value := match us, ws with | [x], [f] => [x, f] | _, _ => []
theorem kb_mode {w : World} {K : PySem.W.Frag} {mg : Str → Option Value} {a : Ads} (T : Txt w K mg a) : KBn K a.d_ModeD_initD ["self", "number"] 1 ["number"] gMv gM where
  to := fun s us ws X l1 l2 => by
    obtain ⟨oc, od, kV, doc, pm, an, cdv, ct, osl, e, lk, hcd⟩ := T.fn_ModeD_initD.ex
    rw [e]
    match us, ws, l1, l2 with
    | [x], [f], _, _ => exact .of_eq rfl
  rel := fun {vs us zs ws} r1 r2 => by
    cases r1 with
    | nil => exact .nil
    | cons h1 t1 =>
      cases t1 with
      | cons _ _ => exact .nil
      | nil =>
        cases r2 with
        | nil => exact .nil
        | cons h2 t2 =>
          cases t2 with
          | nil => exact .cons h1 (.cons h2 .nil)
          | cons _ _ => exact .nil
def gU (us ws : List V) : List V := match us, ws with | [], [f] => [f] | _, _ => []
def gUv (us ws : List Value) : List Value := match us, ws with | [], [f] => [f] | _, _ => []
theorem kb_uni {w : World} {K : PySem.W.Frag} {mg : Str → Option Value} {a : Ads} (T : Txt w K mg a) : KBinds K a.d_Mode_uniform ["pattern"] ["pattern"] gUv gU where
  to := fun s us ws X hl => by
    obtain ⟨oc, od, kV, doc, pm, an, cdv, ct, osl, e, lk, hcd⟩ := T.fn_Mode_uniform.ex
    rw [e]
    match us, ws, hl with
    | [], [f], _ => exact .of_eq rfl
  rel := fun {vs us zs ws} r1 r2 => by
    cases r1 with
    | cons _ _ => exact .nil
    | nil =>
      cases r2 with
      | nil => exact .nil
      | cons h2 t2 =>
        cases t2 with
        | nil => exact .cons h2 .nil
        | cons _ _ => exact .nil
section
variable {K : PySem.W.Frag} {a : Ads} {σ : L2.St} {H : Hp} {te tn tl tq : TE} {E E2 : XK} {n i : Nat} {D : Ends} {tz tu : TS} {p : Addr} {x : V} {s : Str} {Q : VK}
theorem em_modeK (h : Ev te σ H (.int (n : Nat))) (hn : n < 512) : EvM a (tMakeK a.f_Mode 0 1 (spMode a) gM E tNil (tCons te tNil)) σ H n := fun H1 e1 Q q =>
  h H1 e1 _ fun H2 e2 => ⟨rfl, rfl, fun x dx hx hdx hne => ⟨x, dx, n, rfl, hn, upd_same, fun H3 k3 h3 => ⟨rfl, q x H3 (fresh_back e2 hx) (e2.trans fun b o hb => by
    have bx := ne_of_none hb hx
    have bdx := ne_of_none hb hdx
    exact k3 b o (by rw [upd_ne bx, upd_ne bdx]; exact hb) bx) ⟨dx, h3⟩⟩⟩⟩
theorem em_uniformK (h : Ev te σ H (.int (n : Nat))) (hn : n < 8) : EvM a (tSMethK a.f_Mode (spUni a) gU E (tC (.ref a.f_Mode)) (tCons te tNil)) σ H (uni n) := fun H1 e Q q =>
  ⟨rfl, h H1 e _ fun H2 e2 => ⟨n, rfl, hn, fun p H3 hp e3 m => q p H3 (fresh_back e2 hp) (e2.trans e3) m⟩⟩
theorem ev_right (h1 : EvM a te σ H n) (h2 : Ev tn σ H (.int (n : Nat))) (hn : n < 512) : Ev (tCall (spRight a) [] E (tCons te (tCons tn tNil))) σ H (.bl true) := fun H1 e Q q =>
  h1 H1 e _ fun p H2 hp e2 mp => h2 H2 (e.trans e2) _ fun H3 e3 => ⟨p, n, rfl, mp.mono e3, hn, fun H4 e4 => q H4 ((e2.trans e3).trans e4)⟩
theorem heard_mode {T : List (Addr × Str)} (tabs : Tabs T H) (h1 : σ[i]? = some (some x)) (bad : BadO K p H x 511)
    (kk : ∀ t H', ExtN H H' → Tabs T H' → H' t = some (.tup [.str "mode", .str "number"]) → Q (.ref t) H') : tLam T (THeard a) (fun E => tMake a.f_Mode (spModeB K a) [] E (tCons (tVar i) tNil)) σ H Q :=
  ⟨tabs, fun H1 eN T1 => ⟨x, h1, fun q dq hq hdq ne => by
    have hq2 : upd H1 dq (.own q) q = none := by rw [upd_ne (Ne.symm ne)]; exact hq
    have e2 : Ex H1 (upd (upd H1 dq (.own q)) q (.ins a.f_Mode dq [])) := (Ex.new hdq).trans (Ex.new hq2)
    exact ⟨q, dq, x, rfl, upd_same, ((bad.st (StP.ofN eN)).st (StP.of e2)).bad, fun d H' hd e' h' => ⟨rfl, d, "number", rfl, h', fun t H'' ht e'' h'' => kk t H'' (eN.trans (ExtN.of ((e2.trans e').trans e''))) (tabs_keep T1 ((e2.trans e').trans e'')) h''⟩⟩⟩⟩
theorem q_ifHD (bag : BagAt H p) (hi : σ[i]? = some (some (.ref p))) (h : ∀ Q : VK, (∀ t H', ExtN H H' → Tabs (tabsT a) H' → H' t = some (.tup [.str "mode", .str s]) → Q (.ref t) H') → tl σ H Q) (hq : ∀ H1, EvU tq σ H1 [.str "mode", .str s]) (k : ∀ H', BagAt H' p → Tabs (tabsT a) H' → tz D σ H') :
    tSeq (tIfS (tOr (tNot (tB (tCall (spSame 1) [] E (tCons tl (tCons tq tNil))))) (tNot (tB (tCall (spDigits a) [] E2 (tCons (tVar i) tNil))))) tu tNext) tz D σ H :=
  h _ fun t H1 e1 T1 ht => hq H1 H1 (Ex.refl _) _ fun q H2 _ e2 hq2 => ⟨.ref t, .ref q, rfl, .seq (n := 0) true (e2 _ _ ht) hq2 rfl (by show 2 ≤ 1000; decide) (fun i x y hx hy => by
    rw [hx] at hy
    cases hy
    match i, hx with
    | 0, hx => cases hx; exact .str 0 _
    | 1, hx => cases hx; exact .str 0 _), fun H3 e3 => ⟨true, rfl, iteF ⟨.ref p, hi, p, rfl, (bag.keepN e1).keep (e2.trans e3), tabs_keep T1 (e2.trans e3), fun H4 b4 t4 => ⟨true, rfl, iteF (k H4 b4 t4)⟩⟩⟩⟩
end
def spLaw (K : PySem.W.Frag) (a : Ads) : Sp := fun vs H Q _ => ∃ (s : Addr) (ns : List Int), vs = [.ref s] ∧ SqL K H s (ns.map V.int) ∧ ns.length ≤ 63 ∧ H a.PR = some (.tbl #[]) ∧ H a.P0 = some (.tbl #[]) ∧ ∀ H', Q (.bl true) H'
section
variable {P : Program} {w : World} {K : PySem.W.Frag} {mg : Str → Option Value} {base : Heap} {a : Ads}
theorem ok_law (T : Txt w K mg a) {fL : Addr} {oc kV doc pm ct : Value} {od an : Option Addr} {osl : Array (Option Value)} (lkL : K.lookup fL = some ⟨oc, od, .func (PySem.W.fnOf "law" "law" (defArgs s_law) (defBody s_law) (defScope s_law) .none kV doc pm an (.ref a.cA) ct), osl⟩) (hcdL : PySem.W.codeIn K (.ref a.cA) "law" = true) (TBR : TabB base mg a.cR a.PR) (TBL : TabB base mg a.cA a.P0) :
    FnG P w K mg base 13 fL (PySem.W.fnOf "law" "law" (defArgs s_law) (defBody s_law) (defScope s_law) .none kV doc pm an (.ref a.cA) ct) ["_law_script"] (spLaw K a) := by
  have G__law_bag : FnOk P w K mg base CX0 12 _ _ _ _ := (ok_bag T).mono (by decide)
  have G__law_draw : FnOk P w K mg base CX0 12 _ _ _ _ := (ok_draw T).mono (by decide)
  have G__law_odd_value : FnOk P w K mg base CX0 12 _ _ _ _ := (ok_odd_value T).mono (by decide)
  have G__law_right : FnOk P w K mg base CX0 12 _ _ _ _ := (ok_right T).mono (by decide)
  have G__law_digits_right : FnG P w K mg base 12 _ _ _ _ := ok_digits_right T TBR
  have G__law_same : FnOk P w K mg base CX0 12 _ _ _ (spSame 1) := (show FnOk P w K mg base CX0 2 _ _ _ (spSame 1) from ok_sameG T 2).mono (by decide)
  have G_Mode_init : FnOk P w K mg base CX0 11 _ _ _ _ := (ok_Mode_init T).mono (by decide)
  have G_initB : FnOk P w K mg base (L2.CX P w) 8 _ _ _ _ := (ok_init_bad T).mono (by decide)
  have G_Mode_uniform : FnOk P w K mg base CX0 12 _ _ _ _ := (ok_uniform T).mono (by decide)
  refine fnG_of lkL hcdL sc_law (fun vs H Q E h => ?_) fun A outer s H vs Q E gd hr h => ?_
  · obtain ⟨_, _, rfl, _⟩ := h
    rfl
  · obtain ⟨sc, ns, rfl, hs, hl, tabR, tabL, kk⟩ := h
    have hrc : Room 12 _ := hr
    have hrm : Room (11 + 1) _ := hr
    have hr11 : Room 11 _ := hrc.mono (by decide)
    obtain ⟨tm, hm⟩ := T.k_Mode_MOST
    obtain ⟨ocH, odH, kVH, docH, pmH, anH, cdvH, ctH, oslH, eH, lkH, hcdH⟩ := id T.fn__law_heard.ex
    have hbH := bd__law_heard T
    rw [eH] at lkH hbH
    refine ⟨_, (show PSs (cxOf CX0 P w K mg base n_law "law" (defScope s_law) fL (.ref a.cA) A outer s H E).nox (defBody s_law) _ from (pss_cons (ps_set (i := 1) sc_law.nd rfl (Or.inl rfl) (pe_call G__law_bag hrc rfl T.mg__law_bag T.fn__law_bag.kp (bd__law_bag T) .nil pass0 (pa_cons (pv 0) pa_nil)))
    (pss_cons (ps_for PassesOwn.never rfl (pi_range1 rfl T.b_range (pa_cons pe_int pa_nil)) (pg_name (i := 2) sc_law.nd rfl (Or.inl rfl)) (pss_cons (ps_set (i := 3) sc_law.nd rfl (Or.inl rfl) (pe_call G__law_draw hrc rfl T.mg__law_draw T.fn__law_draw.kp (bd__law_draw T) .nil pass0 (pa_cons (pv 1) (pa_cons pe_int pa_nil))))
    (pss_cons (ps_if (PW.pt (pw_or (pt_not (pt_val (pe_call G__law_right hrc rfl T.mg__law_right T.fn__law_right.kp (bd__law_right T) .nil pass0 (pa_cons (pe_make T.mk_Mode G_Mode_init hrm rfl T.mg_Mode (bd_ModeD_initD T) .nil pass0 (pa_cons (pv 3) pa_nil)) (pa_cons (pv 3) pa_nil))))) (pw_or1 (pt_not (pt_val (pe_call G__law_right hrc rfl T.mg__law_right T.fn__law_right.kp (bd__law_right T) .nil pass0 (pa_cons (pe_makeK0 T.mk_Mode G_Mode_init hrm rfl T.mg_Mode (kb_mode T) pass0 (pk_cons (pv 3) pk_nil)) (pa_cons (pv 3) pa_nil)))))))) (pss_one (ps_ret pe_bl)) pss_nil)
    (pss_cons (ps_set (i := 7) sc_law.nd rfl (Or.inr rfl) (pe_call G__law_odd_value hrc rfl T.mg__law_odd_value T.fn__law_odd_value.kp (bd__law_odd_value T) .nil pass0 (pa_cons (pv 1) pa_nil)))
    (pss_cons (ps_if (PW.pt (pw_or (pt_not (pt_val (pe_call G__law_same hrc rfl T.mg__law_same T.fn__law_same.kp (bd__law_same T) .nil pass0 (pa_cons (pe_lamcall (T := tabsT a) (TT := THeard a) rfl T.mg__law_heard T.fn__law_heard.kp lkH hcdH hbH sc__law_heard rfl (Or.inl rfl) (heard_gives T (show A.units + 3 + 100 < cLine by have := hr.un; have e : A.units + 3 + 16 * 12 + 200 < cLine := this; omega)) TBL rfl (List.mem_cons_of_mem _ (List.mem_singleton.mpr rfl)) (tabs_uL T) (k := 9) hr11 (lamS_by (show lamSB (defScope s_law) _ = true by decide +kernel)) rfl (fun _ _ _ _ _ => rfl) (fun _ _ _ _ _ _ _ hr2 => (pe_make T.mk_Mode G_initB (show Room (8 + 1) _ from hr2) rfl T.mg_Mode (bd_ModeD_initD T) .nil (passes_call (takes_of rfl rfl rfl rfl) fun _ _ _ _ h => h) (pa_cons (pv 7) pa_nil)))) (pa_cons (pe_tup (pa_cons pe_str (pa_cons pe_str pa_nil))) pa_nil))))) (pw_or1 (pt_not (pt_val (pe_callG (E := fun _ _ _ => False) G__law_digits_right gd hrc rfl T.mg__law_digits_right T.fn__law_digits_right.kp (bd__law_digits_right T) (pa_cons (pv 1) pa_nil))))))) (pss_one (ps_ret pe_bl)) pss_nil)
    (pss_cons (ps_set (i := 4) sc_law.nd rfl (Or.inl rfl) (pe_call G__law_draw hrc rfl T.mg__law_draw T.fn__law_draw.kp (bd__law_draw T) .nil pass0 (pa_cons (pv 1) (pa_cons pe_int pa_nil))))
    (pss_cons (ps_set (i := 5) sc_law.nd rfl (Or.inl rfl) (pe_lst (pa_cons (pe_op op_fdiv (pv 4) pe_int) (pa_cons (pe_op op_sub (pe_op op_fdiv (pv 4) pe_int) (pe_op op_mul (pe_op op_fdiv (pv 4) pe_int) pe_int)) (pa_cons (pe_op op_sub (pv 4) (pe_op op_mul (pe_op op_fdiv (pv 4) pe_int) pe_int)) pa_nil)))))
    (pss_cons (ps_set (i := 6) sc_law.nd rfl (Or.inl rfl) (pe_op op_add (pe_op op_add (pe_op op_mul pe_int (pe_ix (ix_listE (K := K) rfl) (pv 5) pe_int (fun _ _ => rfl))) (pe_op op_mul pe_int (pe_ix (ix_listE (K := K) rfl) (pv 5) pe_int (fun _ _ => rfl)))) (pe_op op_mul pe_int (pe_ix (ix_listE (K := K) rfl) (pv 5) pe_int (fun _ _ => rfl)))))
    (pss_one (ps_if (PW.pt (pw_or (pt_not (pt_val (pe_call G__law_right hrc rfl T.mg__law_right T.fn__law_right.kp (bd__law_right T) .nil pass0 (pa_cons (pe_smeth (pe_glob (v := .ref a.f_Mode) rfl T.mg_Mode rfl) T.r_Mode T.m_Mode_uniform (G_Mode_uniform.raw (bd_Mode_uniform T) .nil) hrc pass0 (pa_cons (pv 4) pa_nil)) (pa_cons (pv 6) pa_nil))))) (pw_or1 (pt_not (pt_val (pe_call G__law_right hrc rfl T.mg__law_right T.fn__law_right.kp (bd__law_right T) .nil pass0 (pa_cons (pe_smethK (pe_glob (v := .ref a.f_Mode) rfl T.mg_Mode rfl) T.r_Mode T.m_Mode_uniform G_Mode_uniform hrc (kb_uni T) pass0 (pk_cons (pv 4) pk_nil)) (pa_cons (pv 6) pa_nil)))))))) (pss_one (ps_ret pe_bl)) pss_nil))))))))))
    (pss_one (ps_ret (pe_and (pe_call G__law_same hrc rfl T.mg__law_same T.fn__law_same.kp (bd__law_same T) .nil pass0 (pa_cons (ClX.pe_cval (pe_glob (v := .ref a.f_Mode) rfl T.mg_Mode rfl)) (pa_cons pe_int pa_nil))) (pe_and (pe_call G__law_right hrc rfl T.mg__law_right T.fn__law_right.kp (bd__law_right T) .nil pass0 (pa_cons (pe_make T.mk_Mode G_Mode_init hrm rfl T.mg_Mode (bd_ModeD_initD T) .nil pass0 (pa_cons pe_int pa_nil)) (pa_cons pe_int pa_nil))) (pe_one (pe_call G__law_right hrc rfl T.mg__law_right T.fn__law_right.kp (bd__law_right T) .nil pass0 (pa_cons (pe_make T.mk_Mode G_Mode_init hrm rfl T.mg_Mode (bd_ModeD_initD T) .nil pass0 (pa_cons pe_int pa_nil)) (pa_cons pe_int pa_nil))))))))))), ?_⟩
    refine ⟨.ref sc, rfl, sc, ns, rfl, hs, hl, fun p H1 hp e1 bag1 => ?_⟩
    have tab1 : Tabs (tabsT a) H1 := fun q hq => by
      rcases List.mem_cons.mp hq with rfl | hq
      · exact TabS.nil (e1 _ _ tabR)
      · rw [List.mem_singleton.mp hq]
        exact TabS.nil (e1 _ _ tabL)
    refine q_forR1 (n := 6) (ea_cons ev_c ea_nil) (by decide) (fun i σ' H' => ∃ o2 o3 o4 o5 o6 o7, σ' = [some (.ref sc), some (.ref p), o2, o3, o4, o5, o6, o7] ∧ BagAt H' p ∧ Tabs (tabsT a) H') (fun H2 e2 => ⟨_, _, _, _, _, _, rfl, bag1.keep e2, tabs_keep tab1 e2⟩) (fun i σ' H2 hi q => ?_) (fun σ' H2 q => ?_)
    · obtain ⟨o2, o3, o4, o5, o6, o7, rfl, bag2, tab2⟩ := q
      refine q_asgRaw (draw_is 512 rfl bag2 (by decide) (by decide) fun n H3 hn e3 bag3 => ?_)
      have tab3 := tabs_exB tab2 bag2 e3
      refine q_when (b := false) (et_is (et_or (a := false) (b := false) (et_is (et_not (a := true) (et_B (ev_right (em_mode (ev_var rfl) hn) (ev_var rfl) hn))) rfl) fun _ => et_is (et_not (a := true) (et_B (ev_right (em_modeK (ev_var rfl) hn) (ev_var rfl) hn))) rfl) rfl) (fun z => nomatch z) fun _ H4 e4 => ?_
      refine q_asgRaw ⟨.ref p, rfl, p, rfl, bag3.keep e4, fun x H5 bo e5 bag5 => ?_⟩
      have tab5 := tabs_exB (tabs_keep tab3 e4) (bag3.keep e4) e5
      refine q_ifHD (a := a) (p := p) (s := "number") bag5 rfl (fun Q q => heard_mode (K := K) (a := a) (p := p) tab5 rfl bo q) (fun H6 => eu_tup (vs := [.str "mode", .str "number"]) (ea_cons ev_c (ea_cons ev_c ea_nil)) (by show 2 ≤ 100000; decide)) fun H6 bag6 tab6 => ?_
      refine q_asgRaw (draw_is 8 rfl bag6 (by decide) (by decide) fun c H7 hc e7 bag7 => ?_)
      have tab7 := tabs_exB tab6 bag6 e7
      refine q_asgRaw ((el_lst (vs := [.int (c / 4 : Nat), .int (c / 2 % 2 : Nat), .int (c % 2 : Nat)]) (ea_cons (ev_is (ev_op (ev_var rfl) ev_c (rv_I ⟨by decide, by decide⟩)) (congrArg V.int (by omega))) (ea_cons (ev_is (ev_op (ev_op (ev_var rfl) ev_c (rv_I ⟨by decide, by decide⟩)) (ev_op (ev_op (ev_var rfl) ev_c (rv_I ⟨by decide, by decide⟩)) ev_c (rv_I (.inr ⟨by decide, by decide⟩))) rv_I0) (congrArg V.int (by omega))) (ea_cons (ev_is (ev_op (ev_var rfl) (ev_op (ev_op (ev_var rfl) ev_c (rv_I ⟨by decide, by decide⟩)) ev_c (rv_I (.inr ⟨by decide, by decide⟩))) rv_I0) (congrArg V.int (by omega))) ea_nil))) (by show 3 ≤ 100000; decide) : EvL _ _ H7 _) H7 (Ex.refl _) _ fun bl H8 _ e8 h8 => ?_)
      refine q_asg (v := .int (uni c : Nat)) (ev_is (ev_op (ev_op (ev_op ev_c (ev_op (ev_var rfl) ev_c (rv_ixL (K := K) (sq_of h8) rfl)) (rv_I (.inl ⟨by decide, by decide⟩))) (ev_op ev_c (ev_op (ev_var rfl) ev_c (rv_ixL (K := K) (sq_of h8) rfl)) (rv_I (.inl ⟨by decide, by decide⟩))) rv_I0) (ev_op ev_c (ev_op (ev_var rfl) ev_c (rv_ixL (K := K) (sq_of h8) rfl)) (rv_I (.inl ⟨by decide, by decide⟩))) rv_I0) (congrArg V.int (by unfold uni; omega))) fun H9 e9 => ?_
      have hu := uni_is c hc
      refine s_when (b := false) (et_is (et_or (a := false) (b := false) (et_is (et_not (a := true) (et_B (ev_right (em_uniform (ev_var rfl) hc) (ev_var rfl) hu))) rfl) fun _ => et_is (et_not (a := true) (et_B (ev_right (em_uniformK (ev_var rfl) hc) (ev_var rfl) hu))) rfl) rfl) (fun z => nomatch z) fun _ H10 e10 => ?_
      have e710 := (e8.trans e9).trans e10
      exact ⟨_, _, _, _, _, _, rfl, bag7.keep e710, tabs_keep tab7 e710⟩
    · obtain ⟨o2, o3, o4, o5, o6, o7, rfl, bag2, tab2⟩ := q
      exact s_ret (v := .bl true) (ev_andV (a := true) (ev_sameV (v := .int 511) (ev_cval ev_c T.r_Mode hm) ev_c fun _ => .int 1 _) fun _ => ev_andV (a := true) (ev_right (n := 0) (em_mode ev_c (by decide)) ev_c (by decide)) fun _ => ev_right (n := 511) (em_mode ev_c (by decide)) ev_c (by decide)) fun H3 e3 => kk H3
end
end KD
set_option Elab.async false
set_option linter.all false
set_option maxRecDepth 100000
set_option maxHeartbeats 4000000
namespace KD
open PySem PySem.Spec PyProof.Rows L2 Evl
local macro_rules | `(tactic| walk_at "ev") => `(tactic| repeat' (first | exact ev_c | exact ev_var rfl | exact rv_I0 | refine' rv_I ?_ | refine' rv_eq ?_ | refine' rv_ne ?_ | refine' ev_op ?_ ?_ ?_ | exact ea_nil | refine' ea_cons ?_ ?_ | refine' et_test ?_ | refine' et_B ?_ | refine' et_not ?_ | refine' ev_notV ?_))

open PySem
theorem kit_self {K : PySem.W.Frag} {C : Addr} : PySem.W.kitOne K (.ref C) (.ref C) = some true := by
  unfold PySem.W.kitOne
  rw [if_pos (beq_iff_eq.mpr rfl)]
theorem kit_no {K : PySem.W.Frag} {C : Addr} {cd : PySem.ClassData} (ci : PySem.W.clsIn K C = some cd) (ti : PySem.W.typeIn K (.ref C) = some (.type "type")) (su : PySem.W.subIn K (.type "int") (.ref C) = some false) : PySem.W.kitOne K (.type "int") (.ref C) = some false := by
  unfold PySem.W.kitOne PySem.W.kitCls
  rw [if_neg (fun h => by have := beq_iff_eq.mp h; cases this)]
  show (if ((PySem.W.clsIn K C).isSome && PySem.W.typeIn K (.ref C) == some (.type "type")) = true then PySem.W.subIn K (.type "int") (.ref C) else none) = some false
  rw [if_pos (by rw [ci, ti]; simp), su]
theorem tup_at {K : PySem.W.Frag} {H : Hp} {k : Addr} {its : Array Value} {n : Nat} {od : Option Addr} {sl : Array (Option Value)} {xs : List V} (l : K.lookup k = some ⟨.type "tuple", od, .seq its n, sl⟩) (z : its.size ≤ sizeLine) (r : Vals xs its.toList) : SqT K H k xs := .inr ⟨_, its, n, l, rfl, rfl, z, r⟩
theorem kit_ref {K : PySem.W.Frag} {D B : Addr} {cd : PySem.ClassData} {b : Bool} (ci : PySem.W.clsIn K B = some cd) (ti : PySem.W.typeIn K (.ref B) = some (.type "type")) (su : PySem.W.subIn K (.ref D) (.ref B) = some b) (ne : D ≠ B) : PySem.W.kitOne K (.ref D) (.ref B) = some b := by
  unfold PySem.W.kitOne PySem.W.kitCls
  rw [if_neg (fun h => by have := beq_iff_eq.mp h; cases this; exact ne rfl)]
  show (if ((PySem.W.clsIn K B).isSome && PySem.W.typeIn K (.ref B) == some (.type "type")) = true then PySem.W.subIn K (.ref D) (.ref B) else none) = some b
  rw [if_pos (by rw [ci, ti]; simp), su]
theorem kit_ve {K : PySem.W.Frag} {D : Addr} {b : Bool} (su : PySem.W.subIn K (.ref D) (.type "ValueError") = some b) : PySem.W.kitOne K (.ref D) (.type "ValueError") = some b := by
  unfold PySem.W.kitOne PySem.W.kitCls
  rw [if_neg (fun h => by have := beq_iff_eq.mp h; cases this)]
  show (if PySem.W.kitMeta "ValueError" = true then PySem.W.subIn K (.ref D) (.type "ValueError") else none) = some b
  rw [if_pos (by decide +kernel), su]
theorem exm_ref {K : PySem.W.Frag} {D B : Addr} {cd : PySem.ClassData} {b : Bool} (ex : PySem.W.subIn K (.ref B) (.type "BaseException") = some true) (ci : PySem.W.clsIn K B = some cd) (ti : PySem.W.typeIn K (.ref B) = some (.type "type")) (su : PySem.W.subIn K (.ref D) (.ref B) = some b) : PySem.W.exmOne K (.ref D) (.ref B) = some b := by
  unfold PySem.W.exmOne PySem.W.kitCls
  rw [if_pos (by rw [ex]; rfl)]
  show (if ((PySem.W.clsIn K B).isSome && PySem.W.typeIn K (.ref B) == some (.type "type")) = true then PySem.W.subIn K (.ref D) (.ref B) else none) = some b
  rw [if_pos (by rw [ci, ti]; simp), su]
theorem kit_noT {K : PySem.W.Frag} {C : Addr} {t : String} {cd : PySem.ClassData} (ci : PySem.W.clsIn K C = some cd) (ti : PySem.W.typeIn K (.ref C) = some (.type "type")) (su : PySem.W.subIn K (.type t) (.ref C) = some false) : PySem.W.kitOne K (.type t) (.ref C) = some false := by
  unfold PySem.W.kitOne PySem.W.kitCls
  rw [if_neg (fun h => by have := beq_iff_eq.mp h; cases this)]
  show (if ((PySem.W.clsIn K C).isSome && PySem.W.typeIn K (.ref C) == some (.type "type")) = true then PySem.W.subIn K (.type t) (.ref C) else none) = some false
  rw [if_pos (by rw [ci, ti]; simp), su]
theorem all_mk {l : PySem.W.OpenLaw} {w : World} {K : PySem.W.Frag} {h : Heap} {mg : Str → Option Value} {fa : Addr} (X : K.In h) (G : h.Ns mainGlobals mg) (hfa : mg "law" = some (.ref fa))
    {f_is_whole f_is_whole_to f_bits_of f__law_bag f__law_draw f__law_same f__law_odd_value f__law_signs f__law_right f__law_digits_right f_Mode f_ModeD_initD f_Mode_number p_Mode_number f_Mode_digits p_Mode_digits f_ModeD_lenD f_ModeD_boolD f_ModeD_eqD f_ModeD_strD f_ModeD_reprD f_Mode_of p_Mode_of f_Mode_uniform p_Mode_uniform k_NINE_BITS x_BadMode x_BadInput x_NoWay x_BadText x_ModesError f_BadModeD_initD f__law_heard cA P0 cR PR f_law : Addr}
    {od_is_whole : Option Addr} {an_is_whole : Option Addr} {sl_is_whole : Array (Option Value)} {oc_is_whole kV_is_whole dc_is_whole pm_is_whole ct_is_whole : Value} {cd_is_whole : Value} {od_is_whole_to : Option Addr} {an_is_whole_to : Option Addr} {sl_is_whole_to : Array (Option Value)} {oc_is_whole_to kV_is_whole_to dc_is_whole_to pm_is_whole_to ct_is_whole_to : Value} {cd_is_whole_to : Value} {od_bits_of : Option Addr} {an_bits_of : Option Addr} {sl_bits_of : Array (Option Value)} {oc_bits_of kV_bits_of dc_bits_of pm_bits_of ct_bits_of : Value} {cd_bits_of : Value} {od__law_bag : Option Addr} {an__law_bag : Option Addr} {sl__law_bag : Array (Option Value)} {oc__law_bag kV__law_bag dc__law_bag pm__law_bag ct__law_bag : Value} {cd__law_bag : Value} {od__law_draw : Option Addr} {an__law_draw : Option Addr} {sl__law_draw : Array (Option Value)} {oc__law_draw kV__law_draw dc__law_draw pm__law_draw ct__law_draw : Value} {cd__law_draw : Value} {od__law_same : Option Addr} {an__law_same : Option Addr} {sl__law_same : Array (Option Value)} {oc__law_same kV__law_same dc__law_same pm__law_same ct__law_same : Value} {cd__law_same : Value} {od__law_odd_value : Option Addr} {an__law_odd_value : Option Addr} {sl__law_odd_value : Array (Option Value)} {oc__law_odd_value kV__law_odd_value dc__law_odd_value pm__law_odd_value ct__law_odd_value : Value} {cd__law_odd_value : Value} {od__law_signs : Option Addr} {an__law_signs : Option Addr} {sl__law_signs : Array (Option Value)} {oc__law_signs kV__law_signs dc__law_signs pm__law_signs ct__law_signs : Value} {cd__law_signs : Value} {od__law_right : Option Addr} {an__law_right : Option Addr} {sl__law_right : Array (Option Value)} {oc__law_right kV__law_right dc__law_right pm__law_right ct__law_right : Value} {cd__law_right : Value} {od__law_digits_right : Option Addr} {an__law_digits_right : Option Addr} {sl__law_digits_right : Array (Option Value)} {oc__law_digits_right kV__law_digits_right dc__law_digits_right pm__law_digits_right ct__law_digits_right : Value} {od_ModeD_initD : Option Addr} {an_ModeD_initD : Option Addr} {sl_ModeD_initD : Array (Option Value)} {oc_ModeD_initD kV_ModeD_initD dc_ModeD_initD pm_ModeD_initD ct_ModeD_initD : Value} {cd_ModeD_initD : Value} {re_Mode_number : List Value} {od_Mode_number : Option Addr} {an_Mode_number : Option Addr} {sl_Mode_number : Array (Option Value)} {oc_Mode_number kV_Mode_number dc_Mode_number pm_Mode_number ct_Mode_number : Value} {cd_Mode_number : Value} {re_Mode_digits : List Value} {od_Mode_digits : Option Addr} {an_Mode_digits : Option Addr} {sl_Mode_digits : Array (Option Value)} {oc_Mode_digits kV_Mode_digits dc_Mode_digits pm_Mode_digits ct_Mode_digits : Value} {cd_Mode_digits : Value} {od_ModeD_lenD : Option Addr} {an_ModeD_lenD : Option Addr} {sl_ModeD_lenD : Array (Option Value)} {oc_ModeD_lenD kV_ModeD_lenD dc_ModeD_lenD pm_ModeD_lenD ct_ModeD_lenD : Value} {cd_ModeD_lenD : Value} {od_ModeD_boolD : Option Addr} {an_ModeD_boolD : Option Addr} {sl_ModeD_boolD : Array (Option Value)} {oc_ModeD_boolD kV_ModeD_boolD dc_ModeD_boolD pm_ModeD_boolD ct_ModeD_boolD : Value} {cd_ModeD_boolD : Value} {od_ModeD_eqD : Option Addr} {an_ModeD_eqD : Option Addr} {sl_ModeD_eqD : Array (Option Value)} {oc_ModeD_eqD kV_ModeD_eqD dc_ModeD_eqD pm_ModeD_eqD ct_ModeD_eqD : Value} {cd_ModeD_eqD : Value} {od_ModeD_strD : Option Addr} {an_ModeD_strD : Option Addr} {sl_ModeD_strD : Array (Option Value)} {oc_ModeD_strD kV_ModeD_strD dc_ModeD_strD pm_ModeD_strD ct_ModeD_strD : Value} {cd_ModeD_strD : Value} {od_ModeD_reprD : Option Addr} {an_ModeD_reprD : Option Addr} {sl_ModeD_reprD : Array (Option Value)} {oc_ModeD_reprD kV_ModeD_reprD dc_ModeD_reprD pm_ModeD_reprD ct_ModeD_reprD : Value} {cd_ModeD_reprD : Value} {tk_Mode_MOST : Tok} {re_Mode_of : List Value} {od_Mode_of : Option Addr} {an_Mode_of : Option Addr} {sl_Mode_of : Array (Option Value)} {oc_Mode_of kV_Mode_of dc_Mode_of pm_Mode_of ct_Mode_of : Value} {cd_Mode_of : Value} {re_Mode_uniform : List Value} {od_Mode_uniform : Option Addr} {an_Mode_uniform : Option Addr} {sl_Mode_uniform : Array (Option Value)} {oc_Mode_uniform kV_Mode_uniform dc_Mode_uniform pm_Mode_uniform ct_Mode_uniform : Value} {cd_Mode_uniform : Value} {cd_Mode : PySem.ClassData} {its_NINE_BITS : Array Value} {tn_NINE_BITS : Nat} {tod_NINE_BITS : Option Addr} {tsl_NINE_BITS : Array (Option Value)} {tk_NS : Tok} {nmB qB : Str} {NB : Addr} {bsB bmB : List Value} {snB : List Str} {subB : List Value} {abB : Bool} {colB : Option Bool} {ddB : Option Addr} {m0B m1B m2B m3B m5B : Option Value} {od_BadModeD_initD : Option Addr} {an_BadModeD_initD : Option Addr} {sl_BadModeD_initD : Array (Option Value)} {oc_BadModeD_initD kV_BadModeD_initD dc_BadModeD_initD pm_BadModeD_initD ct_BadModeD_initD : Value} {cd_BadModeD_initD : Value} {cdx_BadInput : PySem.ClassData} {cdx_NoWay : PySem.ClassData} {cdx_BadText : PySem.ClassData} {cdx_ModesError : PySem.ClassData} {od__law_heard : Option Addr} {an__law_heard : Option Addr} {sl__law_heard : Array (Option Value)} {oc__law_heard kV__law_heard dc__law_heard pm__law_heard ct__law_heard : Value} {cd__law_heard : Value} {od_law : Option Addr} {an_law : Option Addr} {sl_law : Array (Option Value)} {oc_law kV_law dc_law pm_law ct_law : Value} {od_cA : Option Addr} {vs_cA : Array Value} {sl_cA : Array (Option Value)} {od_cR : Option Addr} {vs_cR : Array Value} {sl_cR : Array (Option Value)}
    (z_ValueError : PySem.W.nsIn K mainGlobals "ValueError" = some none)
    (z_isinstance : PySem.W.nsIn K mainGlobals "isinstance" = some none)
    (z_int : PySem.W.nsIn K mainGlobals "int" = some none)
    (z_bool : PySem.W.nsIn K mainGlobals "bool" = some none)
    (z_str : PySem.W.nsIn K mainGlobals "str" = some none)
    (z_list : PySem.W.nsIn K mainGlobals "list" = some none)
    (z_len : PySem.W.nsIn K mainGlobals "len" = some none)
    (z_abs : PySem.W.nsIn K mainGlobals "abs" = some none)
    (z_range : PySem.W.nsIn K mainGlobals "range" = some none)
    (z_tuple : PySem.W.nsIn K mainGlobals "tuple" = some none)
    (z_zip : PySem.W.nsIn K mainGlobals "zip" = some none)
    (z_repr : PySem.W.nsIn K mainGlobals "repr" = some none)
    (a_is_whole : PySem.W.nsIn K mainGlobals "is_whole" = some (some (.ref f_is_whole)))
    (l_is_whole : K.lookup f_is_whole = some ⟨oc_is_whole, od_is_whole, .func (PySem.W.fnOf "is_whole" "is_whole" (defArgs s_is_whole) (defBody s_is_whole) (defScope s_is_whole) .none kV_is_whole dc_is_whole pm_is_whole an_is_whole cd_is_whole ct_is_whole), sl_is_whole⟩)
    (co_is_whole : PySem.W.codeIn K cd_is_whole "is_whole" = true)
    (kp_is_whole : PySem.W.keepIn K (.ref f_is_whole) = true)
    (a_is_whole_to : PySem.W.nsIn K mainGlobals "is_whole_to" = some (some (.ref f_is_whole_to)))
    (l_is_whole_to : K.lookup f_is_whole_to = some ⟨oc_is_whole_to, od_is_whole_to, .func (PySem.W.fnOf "is_whole_to" "is_whole_to" (defArgs s_is_whole_to) (defBody s_is_whole_to) (defScope s_is_whole_to) .none kV_is_whole_to dc_is_whole_to pm_is_whole_to an_is_whole_to cd_is_whole_to ct_is_whole_to), sl_is_whole_to⟩)
    (co_is_whole_to : PySem.W.codeIn K cd_is_whole_to "is_whole_to" = true)
    (kp_is_whole_to : PySem.W.keepIn K (.ref f_is_whole_to) = true)
    (a_bits_of : PySem.W.nsIn K mainGlobals "bits_of" = some (some (.ref f_bits_of)))
    (l_bits_of : K.lookup f_bits_of = some ⟨oc_bits_of, od_bits_of, .func (PySem.W.fnOf "bits_of" "bits_of" (defArgs s_bits_of) (defBody s_bits_of) (defScope s_bits_of) .none kV_bits_of dc_bits_of pm_bits_of an_bits_of cd_bits_of ct_bits_of), sl_bits_of⟩)
    (co_bits_of : PySem.W.codeIn K cd_bits_of "bits_of" = true)
    (kp_bits_of : PySem.W.keepIn K (.ref f_bits_of) = true)
    (a__law_bag : PySem.W.nsIn K mainGlobals "_law_bag" = some (some (.ref f__law_bag)))
    (l__law_bag : K.lookup f__law_bag = some ⟨oc__law_bag, od__law_bag, .func (PySem.W.fnOf "_law_bag" "_law_bag" (defArgs s__law_bag) (defBody s__law_bag) (defScope s__law_bag) .none kV__law_bag dc__law_bag pm__law_bag an__law_bag cd__law_bag ct__law_bag), sl__law_bag⟩)
    (co__law_bag : PySem.W.codeIn K cd__law_bag "_law_bag" = true)
    (kp__law_bag : PySem.W.keepIn K (.ref f__law_bag) = true)
    (a__law_draw : PySem.W.nsIn K mainGlobals "_law_draw" = some (some (.ref f__law_draw)))
    (l__law_draw : K.lookup f__law_draw = some ⟨oc__law_draw, od__law_draw, .func (PySem.W.fnOf "_law_draw" "_law_draw" (defArgs s__law_draw) (defBody s__law_draw) (defScope s__law_draw) .none kV__law_draw dc__law_draw pm__law_draw an__law_draw cd__law_draw ct__law_draw), sl__law_draw⟩)
    (co__law_draw : PySem.W.codeIn K cd__law_draw "_law_draw" = true)
    (kp__law_draw : PySem.W.keepIn K (.ref f__law_draw) = true)
    (a__law_same : PySem.W.nsIn K mainGlobals "_law_same" = some (some (.ref f__law_same)))
    (l__law_same : K.lookup f__law_same = some ⟨oc__law_same, od__law_same, .func (PySem.W.fnOf "_law_same" "_law_same" (defArgs s__law_same) (defBody s__law_same) (defScope s__law_same) .none kV__law_same dc__law_same pm__law_same an__law_same cd__law_same ct__law_same), sl__law_same⟩)
    (co__law_same : PySem.W.codeIn K cd__law_same "_law_same" = true)
    (kp__law_same : PySem.W.keepIn K (.ref f__law_same) = true)
    (a__law_odd_value : PySem.W.nsIn K mainGlobals "_law_odd_value" = some (some (.ref f__law_odd_value)))
    (l__law_odd_value : K.lookup f__law_odd_value = some ⟨oc__law_odd_value, od__law_odd_value, .func (PySem.W.fnOf "_law_odd_value" "_law_odd_value" (defArgs s__law_odd_value) (defBody s__law_odd_value) (defScope s__law_odd_value) .none kV__law_odd_value dc__law_odd_value pm__law_odd_value an__law_odd_value cd__law_odd_value ct__law_odd_value), sl__law_odd_value⟩)
    (co__law_odd_value : PySem.W.codeIn K cd__law_odd_value "_law_odd_value" = true)
    (kp__law_odd_value : PySem.W.keepIn K (.ref f__law_odd_value) = true)
    (a__law_signs : PySem.W.nsIn K mainGlobals "_law_signs" = some (some (.ref f__law_signs)))
    (l__law_signs : K.lookup f__law_signs = some ⟨oc__law_signs, od__law_signs, .func (PySem.W.fnOf "_law_signs" "_law_signs" (defArgs s__law_signs) (defBody s__law_signs) (defScope s__law_signs) .none kV__law_signs dc__law_signs pm__law_signs an__law_signs cd__law_signs ct__law_signs), sl__law_signs⟩)
    (co__law_signs : PySem.W.codeIn K cd__law_signs "_law_signs" = true)
    (kp__law_signs : PySem.W.keepIn K (.ref f__law_signs) = true)
    (a__law_right : PySem.W.nsIn K mainGlobals "_law_right" = some (some (.ref f__law_right)))
    (l__law_right : K.lookup f__law_right = some ⟨oc__law_right, od__law_right, .func (PySem.W.fnOf "_law_right" "_law_right" (defArgs s__law_right) (defBody s__law_right) (defScope s__law_right) .none kV__law_right dc__law_right pm__law_right an__law_right cd__law_right ct__law_right), sl__law_right⟩)
    (co__law_right : PySem.W.codeIn K cd__law_right "_law_right" = true)
    (kp__law_right : PySem.W.keepIn K (.ref f__law_right) = true)
    (a__law_digits_right : PySem.W.nsIn K mainGlobals "_law_digits_right" = some (some (.ref f__law_digits_right)))
    (l__law_digits_right : K.lookup f__law_digits_right = some ⟨oc__law_digits_right, od__law_digits_right, .func (PySem.W.fnOf "_law_digits_right" "_law_digits_right" (defArgs s__law_digits_right) (defBody s__law_digits_right) (defScope s__law_digits_right) .none kV__law_digits_right dc__law_digits_right pm__law_digits_right an__law_digits_right (.ref cR) ct__law_digits_right), sl__law_digits_right⟩)
    (co__law_digits_right : PySem.W.codeIn K (.ref cR) "_law_digits_right" = true)
    (kp__law_digits_right : PySem.W.keepIn K (.ref f__law_digits_right) = true)
    (a_Mode : PySem.W.nsIn K mainGlobals "Mode" = some (some (.ref f_Mode)))
    (pg_Mode : PySem.W.plainGet K f_Mode Str.empty = true)
    (hd_Mode : PySem.W.hasDictIn K f_Mode = true)
    (po_Mode : PySem.W.plainOver K f_Mode = true)
    (sa_Mode : PySem.W.findIn K (.ref f_Mode) "__setattr__" = some (some (.builtin "object.__setattr__")))
    (n_number_Mode : PySem.W.findIn K (.ref f_Mode) "_number" = some none)
    (at_ModeD_initD : PySem.W.findIn K (.ref f_Mode) "__init__" = some (some (.ref f_ModeD_initD)))
    (fi_ModeD_initD : PySem.W.isFn K (.ref f_ModeD_initD) = true)
    (l_ModeD_initD : K.lookup f_ModeD_initD = some ⟨oc_ModeD_initD, od_ModeD_initD, .func (PySem.W.fnOf "__init__" "Mode.__init__" (defArgs s_ModeD_initD) (defBody s_ModeD_initD) (defScope s_ModeD_initD) .none kV_ModeD_initD dc_ModeD_initD pm_ModeD_initD an_ModeD_initD cd_ModeD_initD ct_ModeD_initD), sl_ModeD_initD⟩)
    (co_ModeD_initD : PySem.W.codeIn K cd_ModeD_initD "Mode.__init__" = true)
    (kp_ModeD_initD : PySem.W.keepIn K (.ref f_ModeD_initD) = true)
    (mk_Mode : PySem.W.makesIn K f_Mode = true)
    (kc_Mode : PySem.W.keepIn K (.ref f_Mode) = true)
    (at_Mode_number : PySem.W.findIn K (.ref f_Mode) "number" = some (some (.ref p_Mode_number)))
    (ge_Mode_number : PySem.W.specialIn K (.ref p_Mode_number) "__get__" = some (some (.builtin "property.__get__")))
    (ta_Mode_number : PySem.W.takesIn K (.ref p_Mode_number) = some true)
    (rc_Mode_number : PySem.W.recIn K p_Mode_number "property" = some (.ref f_Mode_number :: re_Mode_number))
    (l_Mode_number : K.lookup f_Mode_number = some ⟨oc_Mode_number, od_Mode_number, .func (PySem.W.fnOf "number" "Mode.number" (defArgs s_Mode_number) (defBody s_Mode_number) (defScope s_Mode_number) .none kV_Mode_number dc_Mode_number pm_Mode_number an_Mode_number cd_Mode_number ct_Mode_number), sl_Mode_number⟩)
    (co_Mode_number : PySem.W.codeIn K cd_Mode_number "Mode.number" = true)
    (kp_Mode_number : PySem.W.keepIn K (.ref f_Mode_number) = true)
    (at_Mode_digits : PySem.W.findIn K (.ref f_Mode) "digits" = some (some (.ref p_Mode_digits)))
    (ge_Mode_digits : PySem.W.specialIn K (.ref p_Mode_digits) "__get__" = some (some (.builtin "property.__get__")))
    (ta_Mode_digits : PySem.W.takesIn K (.ref p_Mode_digits) = some true)
    (rc_Mode_digits : PySem.W.recIn K p_Mode_digits "property" = some (.ref f_Mode_digits :: re_Mode_digits))
    (l_Mode_digits : K.lookup f_Mode_digits = some ⟨oc_Mode_digits, od_Mode_digits, .func (PySem.W.fnOf "digits" "Mode.digits" (defArgs s_Mode_digits) (defBody s_Mode_digits) (defScope s_Mode_digits) .none kV_Mode_digits dc_Mode_digits pm_Mode_digits an_Mode_digits cd_Mode_digits ct_Mode_digits), sl_Mode_digits⟩)
    (co_Mode_digits : PySem.W.codeIn K cd_Mode_digits "Mode.digits" = true)
    (kp_Mode_digits : PySem.W.keepIn K (.ref f_Mode_digits) = true)
    (at_ModeD_lenD : PySem.W.findIn K (.ref f_Mode) "__len__" = some (some (.ref f_ModeD_lenD)))
    (fi_ModeD_lenD : PySem.W.isFn K (.ref f_ModeD_lenD) = true)
    (l_ModeD_lenD : K.lookup f_ModeD_lenD = some ⟨oc_ModeD_lenD, od_ModeD_lenD, .func (PySem.W.fnOf "__len__" "Mode.__len__" (defArgs s_ModeD_lenD) (defBody s_ModeD_lenD) (defScope s_ModeD_lenD) .none kV_ModeD_lenD dc_ModeD_lenD pm_ModeD_lenD an_ModeD_lenD cd_ModeD_lenD ct_ModeD_lenD), sl_ModeD_lenD⟩)
    (co_ModeD_lenD : PySem.W.codeIn K cd_ModeD_lenD "Mode.__len__" = true)
    (kp_ModeD_lenD : PySem.W.keepIn K (.ref f_ModeD_lenD) = true)
    (at_ModeD_boolD : PySem.W.findIn K (.ref f_Mode) "__bool__" = some (some (.ref f_ModeD_boolD)))
    (fi_ModeD_boolD : PySem.W.isFn K (.ref f_ModeD_boolD) = true)
    (l_ModeD_boolD : K.lookup f_ModeD_boolD = some ⟨oc_ModeD_boolD, od_ModeD_boolD, .func (PySem.W.fnOf "__bool__" "Mode.__bool__" (defArgs s_ModeD_boolD) (defBody s_ModeD_boolD) (defScope s_ModeD_boolD) .none kV_ModeD_boolD dc_ModeD_boolD pm_ModeD_boolD an_ModeD_boolD cd_ModeD_boolD ct_ModeD_boolD), sl_ModeD_boolD⟩)
    (co_ModeD_boolD : PySem.W.codeIn K cd_ModeD_boolD "Mode.__bool__" = true)
    (kp_ModeD_boolD : PySem.W.keepIn K (.ref f_ModeD_boolD) = true)
    (at_ModeD_eqD : PySem.W.findIn K (.ref f_Mode) "__eq__" = some (some (.ref f_ModeD_eqD)))
    (fi_ModeD_eqD : PySem.W.isFn K (.ref f_ModeD_eqD) = true)
    (l_ModeD_eqD : K.lookup f_ModeD_eqD = some ⟨oc_ModeD_eqD, od_ModeD_eqD, .func (PySem.W.fnOf "__eq__" "Mode.__eq__" (defArgs s_ModeD_eqD) (defBody s_ModeD_eqD) (defScope s_ModeD_eqD) .none kV_ModeD_eqD dc_ModeD_eqD pm_ModeD_eqD an_ModeD_eqD cd_ModeD_eqD ct_ModeD_eqD), sl_ModeD_eqD⟩)
    (co_ModeD_eqD : PySem.W.codeIn K cd_ModeD_eqD "Mode.__eq__" = true)
    (kp_ModeD_eqD : PySem.W.keepIn K (.ref f_ModeD_eqD) = true)
    (at_ModeD_strD : PySem.W.findIn K (.ref f_Mode) "__str__" = some (some (.ref f_ModeD_strD)))
    (fi_ModeD_strD : PySem.W.isFn K (.ref f_ModeD_strD) = true)
    (l_ModeD_strD : K.lookup f_ModeD_strD = some ⟨oc_ModeD_strD, od_ModeD_strD, .func (PySem.W.fnOf "__str__" "Mode.__str__" (defArgs s_ModeD_strD) (defBody s_ModeD_strD) (defScope s_ModeD_strD) .none kV_ModeD_strD dc_ModeD_strD pm_ModeD_strD an_ModeD_strD cd_ModeD_strD ct_ModeD_strD), sl_ModeD_strD⟩)
    (co_ModeD_strD : PySem.W.codeIn K cd_ModeD_strD "Mode.__str__" = true)
    (kp_ModeD_strD : PySem.W.keepIn K (.ref f_ModeD_strD) = true)
    (at_ModeD_reprD : PySem.W.findIn K (.ref f_Mode) "__repr__" = some (some (.ref f_ModeD_reprD)))
    (fi_ModeD_reprD : PySem.W.isFn K (.ref f_ModeD_reprD) = true)
    (l_ModeD_reprD : K.lookup f_ModeD_reprD = some ⟨oc_ModeD_reprD, od_ModeD_reprD, .func (PySem.W.fnOf "__repr__" "Mode.__repr__" (defArgs s_ModeD_reprD) (defBody s_ModeD_reprD) (defScope s_ModeD_reprD) .none kV_ModeD_reprD dc_ModeD_reprD pm_ModeD_reprD an_ModeD_reprD cd_ModeD_reprD ct_ModeD_reprD), sl_ModeD_reprD⟩)
    (co_ModeD_reprD : PySem.W.codeIn K cd_ModeD_reprD "Mode.__repr__" = true)
    (kp_ModeD_reprD : PySem.W.keepIn K (.ref f_ModeD_reprD) = true)
    (rd_Mode : PySem.W.readsIn K f_Mode (.type "type") = true)
    (ga_Mode : PySem.W.specialIn K (.ref f_Mode) "__getattribute__" = some (some (.builtin "type.__getattribute__")))
    (cv_Mode_MOST : PySem.W.findCls K (.ref f_Mode) (.type "type") "MOST" = some (.val (.int 511 tk_Mode_MOST)))
    (at_Mode_of : PySem.W.findCls K (.ref f_Mode) (.type "type") "of" = some (.get (.builtin "staticmethod.__get__") (.ref p_Mode_of) .none (.ref f_Mode)))
    (rc_Mode_of : PySem.W.recIn K p_Mode_of "staticmethod" = some (.ref f_Mode_of :: re_Mode_of))
    (l_Mode_of : K.lookup f_Mode_of = some ⟨oc_Mode_of, od_Mode_of, .func (PySem.W.fnOf "of" "Mode.of" (defArgs s_Mode_of) (defBody s_Mode_of) (defScope s_Mode_of) .none kV_Mode_of dc_Mode_of pm_Mode_of an_Mode_of cd_Mode_of ct_Mode_of), sl_Mode_of⟩)
    (co_Mode_of : PySem.W.codeIn K cd_Mode_of "Mode.of" = true)
    (kp_Mode_of : PySem.W.keepIn K (.ref f_Mode_of) = true)
    (at_Mode_uniform : PySem.W.findCls K (.ref f_Mode) (.type "type") "uniform" = some (.get (.builtin "staticmethod.__get__") (.ref p_Mode_uniform) .none (.ref f_Mode)))
    (rc_Mode_uniform : PySem.W.recIn K p_Mode_uniform "staticmethod" = some (.ref f_Mode_uniform :: re_Mode_uniform))
    (l_Mode_uniform : K.lookup f_Mode_uniform = some ⟨oc_Mode_uniform, od_Mode_uniform, .func (PySem.W.fnOf "uniform" "Mode.uniform" (defArgs s_Mode_uniform) (defBody s_Mode_uniform) (defScope s_Mode_uniform) .none kV_Mode_uniform dc_Mode_uniform pm_Mode_uniform an_Mode_uniform cd_Mode_uniform ct_Mode_uniform), sl_Mode_uniform⟩)
    (co_Mode_uniform : PySem.W.codeIn K cd_Mode_uniform "Mode.uniform" = true)
    (kp_Mode_uniform : PySem.W.keepIn K (.ref f_Mode_uniform) = true)
    (ia_Mode : PySem.W.findIn K (.ref f_Mode) "__class__" = some (some (.builtin "object.__class__")))
    (im_Mode : PySem.W.mroIn K f_Mode (.type "object") = some true)
    (ci_Mode : PySem.W.clsIn K f_Mode = some cd_Mode)
    (ti_Mode : PySem.W.typeIn K (.ref f_Mode) = some (.type "type"))
    (su_Mode : PySem.W.subIn K (.type "int") (.ref f_Mode) = some false)
    (in0 : PySem.W.specialIn K (.builtin "object.__class__") "__get__" = some (some (.builtin "getset_descriptor.__get__")))
    (it0 : PySem.W.takesIn K (.builtin "object.__class__") = some true)
    (a_NINE_BITS : PySem.W.nsIn K mainGlobals "NINE_BITS" = some (some (.ref k_NINE_BITS)))
    (lt_NINE_BITS : K.lookup k_NINE_BITS = some ⟨.type "tuple", tod_NINE_BITS, .seq its_NINE_BITS tn_NINE_BITS, tsl_NINE_BITS⟩)
    (sz_NINE_BITS : its_NINE_BITS.size ≤ sizeLine)
    (vl_NINE_BITS : Vals ([256, 128, 64, 32, 16, 8, 4, 2, 1].map V.int) its_NINE_BITS.toList)
    (a_NINE_SIGNS : PySem.W.nsIn K mainGlobals "NINE_SIGNS" = some (some (.str "rwxrwxrwx" tk_NS)))
    (a_BadMode : PySem.W.nsIn K mainGlobals "BadMode" = some (some (.ref x_BadMode)))
    (a_BadInput : PySem.W.nsIn K mainGlobals "BadInput" = some (some (.ref x_BadInput)))
    (a_NoWay : PySem.W.nsIn K mainGlobals "NoWay" = some (some (.ref x_NoWay)))
    (a_BadText : PySem.W.nsIn K mainGlobals "BadText" = some (some (.ref x_BadText)))
    (a_ModesError : PySem.W.nsIn K mainGlobals "ModesError" = some (some (.ref x_ModesError)))
    (xl_B : K.lookup x_BadMode = some (excClassObj nmB qB x_BadMode NB bsB bmB true snB subB abB colB ddB m0B m1B m2B m3B m5B "ValueError.__new__"))
    (rf_B : PySem.HandSPX.refsVE bmB = true)
    (sa_B : PySem.W.findIn K (.ref x_BadMode) "__setattr__" = some (some (.builtin "object.__setattr__")))
    (ex_B : PySem.W.subIn K (.ref x_BadMode) (.type "BaseException") = some true)
    (ty_B : PySem.W.typeIn K (.ref x_BadMode) = some (.type "type"))
    (kp_B : PySem.W.keepIn K (.ref x_BadMode) = true)
    (ga_B : PySem.W.findIn K (.ref x_BadMode) "__getattribute__" = some (some (.builtin "BaseException.__getattribute__")))
    (gg_B : PySem.W.findIn K (.ref x_BadMode) "__getattr__" = some none)
    (hd_B : PySem.W.hasDictIn K x_BadMode = true)
    (cc_B : PySem.W.findIn K (.ref x_BadMode) "__class__" = some (some (.builtin "object.__class__")))
    (mr_B : PySem.W.mroIn K x_BadMode (.type "object") = some true)
    (np_B : PySem.W.findIn K (.ref x_BadMode) "part" = some none)
    (in_B : PySem.W.findIn K (.ref x_BadMode) "__init__" = some (some (.ref f_BadModeD_initD)))
    (ti_B : PySem.W.typeIn K (.ref f_BadModeD_initD) = some (.type "function"))
    (l_BadModeD_initD : K.lookup f_BadModeD_initD = some ⟨oc_BadModeD_initD, od_BadModeD_initD, .func (PySem.W.fnOf "__init__" "BadMode.__init__" (defArgs s_BadModeD_initD) (defBody s_BadModeD_initD) (defScope s_BadModeD_initD) .none kV_BadModeD_initD dc_BadModeD_initD pm_BadModeD_initD an_BadModeD_initD cd_BadModeD_initD ct_BadModeD_initD), sl_BadModeD_initD⟩)
    (co_BadModeD_initD : PySem.W.codeIn K cd_BadModeD_initD "BadMode.__init__" = true)
    (kp_BadModeD_initD : PySem.W.keepIn K (.ref f_BadModeD_initD) = true)
    (cix_BadInput : PySem.W.clsIn K x_BadInput = some cdx_BadInput)
    (tix_BadInput : PySem.W.typeIn K (.ref x_BadInput) = some (.type "type"))
    (cix_NoWay : PySem.W.clsIn K x_NoWay = some cdx_NoWay)
    (tix_NoWay : PySem.W.typeIn K (.ref x_NoWay) = some (.type "type"))
    (cix_BadText : PySem.W.clsIn K x_BadText = some cdx_BadText)
    (tix_BadText : PySem.W.typeIn K (.ref x_BadText) = some (.type "type"))
    (cix_ModesError : PySem.W.clsIn K x_ModesError = some cdx_ModesError)
    (tix_ModesError : PySem.W.typeIn K (.ref x_ModesError) = some (.type "type"))
    (sux_BadInput : PySem.W.subIn K (.ref x_BadMode) (.ref x_BadInput) = some true)
    (nex_BadInput : x_BadMode ≠ x_BadInput)
    (sux_NoWay : PySem.W.subIn K (.ref x_BadMode) (.ref x_NoWay) = some false)
    (nex_NoWay : x_BadMode ≠ x_NoWay)
    (sux_BadText : PySem.W.subIn K (.ref x_BadMode) (.ref x_BadText) = some false)
    (nex_BadText : x_BadMode ≠ x_BadText)
    (suv_B : PySem.W.subIn K (.ref x_BadMode) (.type "ValueError") = some true)
    (bex_ME : PySem.W.subIn K (.ref x_ModesError) (.type "BaseException") = some true)
    (sux_ME : PySem.W.subIn K (.ref x_BadMode) (.ref x_ModesError) = some true)
    (a__law_heard : PySem.W.nsIn K mainGlobals "_law_heard" = some (some (.ref f__law_heard)))
    (l__law_heard : K.lookup f__law_heard = some ⟨oc__law_heard, od__law_heard, .func (PySem.W.fnOf "_law_heard" "_law_heard" (defArgs s__law_heard) (defBody s__law_heard) (defScope s__law_heard) .none kV__law_heard dc__law_heard pm__law_heard an__law_heard cd__law_heard ct__law_heard), sl__law_heard⟩)
    (co__law_heard : PySem.W.codeIn K cd__law_heard "_law_heard" = true)
    (kp__law_heard : PySem.W.keepIn K (.ref f__law_heard) = true)
    (nf_Mode : PySem.W.notFirst K f_Mode (.ref f_Mode) = true)
    (nf_NoneType : PySem.W.notFirst K f_Mode (.type "NoneType") = true)
    (nf_bool : PySem.W.notFirst K f_Mode (.type "bool") = true)
    (nf_str : PySem.W.notFirst K f_Mode (.type "str") = true)
    (nf_tuple : PySem.W.notFirst K f_Mode (.type "tuple") = true)
    (nf_list : PySem.W.notFirst K f_Mode (.type "list") = true)
    (nf_dict : PySem.W.notFirst K f_Mode (.type "dict") = true)
    (nf_int : PySem.W.notFirst K f_Mode (.type "int") = true)
    (sn_NoneType : PySem.W.subIn K (.type "NoneType") (.ref f_Mode) = some false)
    (sn_bool : PySem.W.subIn K (.type "bool") (.ref f_Mode) = some false)
    (sn_str : PySem.W.subIn K (.type "str") (.ref f_Mode) = some false)
    (sn_tuple : PySem.W.subIn K (.type "tuple") (.ref f_Mode) = some false)
    (sn_list : PySem.W.subIn K (.type "list") (.ref f_Mode) = some false)
    (sn_dict : PySem.W.subIn K (.type "dict") (.ref f_Mode) = some false)
    (a_law : PySem.W.nsIn K mainGlobals "law" = some (some (.ref f_law)))
    (l_law : K.lookup f_law = some ⟨oc_law, od_law, .func (PySem.W.fnOf "law" "law" (defArgs s_law) (defBody s_law) (defScope s_law) .none kV_law dc_law pm_law an_law (.ref cA) ct_law), sl_law⟩)
    (co_law : PySem.W.codeIn K (.ref cA) "law" = true)
    (kp_law : PySem.W.keepIn K (.ref f_law) = true)
    (lc_P0 : K.lookup cA = some ⟨.type "code", od_cA, .fields vs_cA, sl_cA⟩)
    (v11_P0 : vs_cA[11]? = some (.ref P0))
    (ch_P0 : PySem.W.codeHdIn K cA P0 = true)
    (kl_P0 : K.lookup P0 = none)
    (tb_P0 : h.get? P0 = some { cls := .none, data := .fields #[] })
    (lc_PR : K.lookup cR = some ⟨.type "code", od_cR, .fields vs_cR, sl_cR⟩)
    (v11_PR : vs_cR[11]? = some (.ref PR))
    (ch_PR : PySem.W.codeHdIn K cR PR = true)
    (kl_PR : K.lookup PR = none)
    (tb_PR : h.get? PR = some { cls := .none, data := .fields #[] })
    (ne_PR : PR ≠ P0)
    : LawTop l w K "_law_script" mg fa h := by
  have e := hfa.symm.trans (PySem.W.mg_of X G a_law)
  obtain rfl : f_law = fa := by cases e; rfl
  have T : Txt w K mg { f_is_whole := f_is_whole, d_is_whole := PySem.W.fnOf "is_whole" "is_whole" (defArgs s_is_whole) (defBody s_is_whole) (defScope s_is_whole) .none kV_is_whole dc_is_whole pm_is_whole an_is_whole cd_is_whole ct_is_whole, f_is_whole_to := f_is_whole_to, d_is_whole_to := PySem.W.fnOf "is_whole_to" "is_whole_to" (defArgs s_is_whole_to) (defBody s_is_whole_to) (defScope s_is_whole_to) .none kV_is_whole_to dc_is_whole_to pm_is_whole_to an_is_whole_to cd_is_whole_to ct_is_whole_to, f_bits_of := f_bits_of, d_bits_of := PySem.W.fnOf "bits_of" "bits_of" (defArgs s_bits_of) (defBody s_bits_of) (defScope s_bits_of) .none kV_bits_of dc_bits_of pm_bits_of an_bits_of cd_bits_of ct_bits_of, f__law_bag := f__law_bag, d__law_bag := PySem.W.fnOf "_law_bag" "_law_bag" (defArgs s__law_bag) (defBody s__law_bag) (defScope s__law_bag) .none kV__law_bag dc__law_bag pm__law_bag an__law_bag cd__law_bag ct__law_bag, f__law_draw := f__law_draw, d__law_draw := PySem.W.fnOf "_law_draw" "_law_draw" (defArgs s__law_draw) (defBody s__law_draw) (defScope s__law_draw) .none kV__law_draw dc__law_draw pm__law_draw an__law_draw cd__law_draw ct__law_draw, f__law_same := f__law_same, d__law_same := PySem.W.fnOf "_law_same" "_law_same" (defArgs s__law_same) (defBody s__law_same) (defScope s__law_same) .none kV__law_same dc__law_same pm__law_same an__law_same cd__law_same ct__law_same, f__law_odd_value := f__law_odd_value, d__law_odd_value := PySem.W.fnOf "_law_odd_value" "_law_odd_value" (defArgs s__law_odd_value) (defBody s__law_odd_value) (defScope s__law_odd_value) .none kV__law_odd_value dc__law_odd_value pm__law_odd_value an__law_odd_value cd__law_odd_value ct__law_odd_value, f__law_signs := f__law_signs, d__law_signs := PySem.W.fnOf "_law_signs" "_law_signs" (defArgs s__law_signs) (defBody s__law_signs) (defScope s__law_signs) .none kV__law_signs dc__law_signs pm__law_signs an__law_signs cd__law_signs ct__law_signs, f__law_right := f__law_right, d__law_right := PySem.W.fnOf "_law_right" "_law_right" (defArgs s__law_right) (defBody s__law_right) (defScope s__law_right) .none kV__law_right dc__law_right pm__law_right an__law_right cd__law_right ct__law_right, f__law_digits_right := f__law_digits_right, d__law_digits_right := PySem.W.fnOf "_law_digits_right" "_law_digits_right" (defArgs s__law_digits_right) (defBody s__law_digits_right) (defScope s__law_digits_right) .none kV__law_digits_right dc__law_digits_right pm__law_digits_right an__law_digits_right (.ref cR) ct__law_digits_right, f_Mode := f_Mode, f_ModeD_initD := f_ModeD_initD, d_ModeD_initD := PySem.W.fnOf "__init__" "Mode.__init__" (defArgs s_ModeD_initD) (defBody s_ModeD_initD) (defScope s_ModeD_initD) .none kV_ModeD_initD dc_ModeD_initD pm_ModeD_initD an_ModeD_initD cd_ModeD_initD ct_ModeD_initD, f_Mode_number := f_Mode_number, d_Mode_number := PySem.W.fnOf "number" "Mode.number" (defArgs s_Mode_number) (defBody s_Mode_number) (defScope s_Mode_number) .none kV_Mode_number dc_Mode_number pm_Mode_number an_Mode_number cd_Mode_number ct_Mode_number, p_Mode_number := p_Mode_number, f_Mode_digits := f_Mode_digits, d_Mode_digits := PySem.W.fnOf "digits" "Mode.digits" (defArgs s_Mode_digits) (defBody s_Mode_digits) (defScope s_Mode_digits) .none kV_Mode_digits dc_Mode_digits pm_Mode_digits an_Mode_digits cd_Mode_digits ct_Mode_digits, p_Mode_digits := p_Mode_digits, f_ModeD_lenD := f_ModeD_lenD, d_ModeD_lenD := PySem.W.fnOf "__len__" "Mode.__len__" (defArgs s_ModeD_lenD) (defBody s_ModeD_lenD) (defScope s_ModeD_lenD) .none kV_ModeD_lenD dc_ModeD_lenD pm_ModeD_lenD an_ModeD_lenD cd_ModeD_lenD ct_ModeD_lenD, f_ModeD_boolD := f_ModeD_boolD, d_ModeD_boolD := PySem.W.fnOf "__bool__" "Mode.__bool__" (defArgs s_ModeD_boolD) (defBody s_ModeD_boolD) (defScope s_ModeD_boolD) .none kV_ModeD_boolD dc_ModeD_boolD pm_ModeD_boolD an_ModeD_boolD cd_ModeD_boolD ct_ModeD_boolD, f_ModeD_eqD := f_ModeD_eqD, d_ModeD_eqD := PySem.W.fnOf "__eq__" "Mode.__eq__" (defArgs s_ModeD_eqD) (defBody s_ModeD_eqD) (defScope s_ModeD_eqD) .none kV_ModeD_eqD dc_ModeD_eqD pm_ModeD_eqD an_ModeD_eqD cd_ModeD_eqD ct_ModeD_eqD, f_ModeD_strD := f_ModeD_strD, d_ModeD_strD := PySem.W.fnOf "__str__" "Mode.__str__" (defArgs s_ModeD_strD) (defBody s_ModeD_strD) (defScope s_ModeD_strD) .none kV_ModeD_strD dc_ModeD_strD pm_ModeD_strD an_ModeD_strD cd_ModeD_strD ct_ModeD_strD, f_ModeD_reprD := f_ModeD_reprD, d_ModeD_reprD := PySem.W.fnOf "__repr__" "Mode.__repr__" (defArgs s_ModeD_reprD) (defBody s_ModeD_reprD) (defScope s_ModeD_reprD) .none kV_ModeD_reprD dc_ModeD_reprD pm_ModeD_reprD an_ModeD_reprD cd_ModeD_reprD ct_ModeD_reprD, f_Mode_of := f_Mode_of, d_Mode_of := PySem.W.fnOf "of" "Mode.of" (defArgs s_Mode_of) (defBody s_Mode_of) (defScope s_Mode_of) .none kV_Mode_of dc_Mode_of pm_Mode_of an_Mode_of cd_Mode_of ct_Mode_of, p_Mode_of := p_Mode_of, f_Mode_uniform := f_Mode_uniform, d_Mode_uniform := PySem.W.fnOf "uniform" "Mode.uniform" (defArgs s_Mode_uniform) (defBody s_Mode_uniform) (defScope s_Mode_uniform) .none kV_Mode_uniform dc_Mode_uniform pm_Mode_uniform an_Mode_uniform cd_Mode_uniform ct_Mode_uniform, p_Mode_uniform := p_Mode_uniform, k_NINE_BITS := k_NINE_BITS, x_BadMode := x_BadMode, x_BadInput := x_BadInput, x_NoWay := x_NoWay, x_BadText := x_BadText, x_ModesError := x_ModesError, f_BadModeD_initD := f_BadModeD_initD, d_BadModeD_initD := PySem.W.fnOf "__init__" "BadMode.__init__" (defArgs s_BadModeD_initD) (defBody s_BadModeD_initD) (defScope s_BadModeD_initD) .none kV_BadModeD_initD dc_BadModeD_initD pm_BadModeD_initD an_BadModeD_initD cd_BadModeD_initD ct_BadModeD_initD, f__law_heard := f__law_heard, d__law_heard := PySem.W.fnOf "_law_heard" "_law_heard" (defArgs s__law_heard) (defBody s__law_heard) (defScope s__law_heard) .none kV__law_heard dc__law_heard pm__law_heard an__law_heard cd__law_heard ct__law_heard, cA := cA, P0 := P0, cR := cR, PR := PR } := {
    b_ValueError := PySem.W.mg_none_of X G z_ValueError,
    b_isinstance := PySem.W.mg_none_of X G z_isinstance,
    b_int := PySem.W.mg_none_of X G z_int,
    b_bool := PySem.W.mg_none_of X G z_bool,
    b_str := PySem.W.mg_none_of X G z_str,
    b_list := PySem.W.mg_none_of X G z_list,
    b_len := PySem.W.mg_none_of X G z_len,
    b_abs := PySem.W.mg_none_of X G z_abs,
    b_range := PySem.W.mg_none_of X G z_range,
    b_tuple := PySem.W.mg_none_of X G z_tuple,
    b_zip := PySem.W.mg_none_of X G z_zip,
    b_repr := PySem.W.mg_none_of X G z_repr,
    mg_is_whole := PySem.W.mg_of X G a_is_whole,
    fn_is_whole := fun_mk (st := s_is_whole) l_is_whole co_is_whole kp_is_whole,
    mg_is_whole_to := PySem.W.mg_of X G a_is_whole_to,
    fn_is_whole_to := fun_mk (st := s_is_whole_to) l_is_whole_to co_is_whole_to kp_is_whole_to,
    mg_bits_of := PySem.W.mg_of X G a_bits_of,
    fn_bits_of := fun_mk (st := s_bits_of) l_bits_of co_bits_of kp_bits_of,
    mg__law_bag := PySem.W.mg_of X G a__law_bag,
    fn__law_bag := fun_mk (st := s__law_bag) l__law_bag co__law_bag kp__law_bag,
    mg__law_draw := PySem.W.mg_of X G a__law_draw,
    fn__law_draw := fun_mk (st := s__law_draw) l__law_draw co__law_draw kp__law_draw,
    mg__law_same := PySem.W.mg_of X G a__law_same,
    fn__law_same := fun_mk (st := s__law_same) l__law_same co__law_same kp__law_same,
    mg__law_odd_value := PySem.W.mg_of X G a__law_odd_value,
    fn__law_odd_value := fun_mk (st := s__law_odd_value) l__law_odd_value co__law_odd_value kp__law_odd_value,
    mg__law_signs := PySem.W.mg_of X G a__law_signs,
    fn__law_signs := fun_mk (st := s__law_signs) l__law_signs co__law_signs kp__law_signs,
    mg__law_right := PySem.W.mg_of X G a__law_right,
    fn__law_right := fun_mk (st := s__law_right) l__law_right co__law_right kp__law_right,
    mg__law_digits_right := PySem.W.mg_of X G a__law_digits_right,
    fn__law_digits_right := fun_mk (st := s__law_digits_right) l__law_digits_right co__law_digits_right kp__law_digits_right,
    mg_Mode := PySem.W.mg_of X G a_Mode,
    c_Mode := ⟨pg_Mode, hd_Mode, po_Mode, sa_Mode⟩,
    n_number_Mode := n_number_Mode,
    mk_Mode := ⟨mk_Mode, at_ModeD_initD, fi_ModeD_initD, kc_Mode⟩,
    fn_ModeD_initD := fun_mk (st := s_ModeD_initD) l_ModeD_initD co_ModeD_initD kp_ModeD_initD,
    p_Mode_number := ⟨at_Mode_number, ge_Mode_number, ta_Mode_number, ⟨_, rc_Mode_number⟩⟩,
    fn_Mode_number := fun_mk (st := s_Mode_number) l_Mode_number co_Mode_number kp_Mode_number,
    p_Mode_digits := ⟨at_Mode_digits, ge_Mode_digits, ta_Mode_digits, ⟨_, rc_Mode_digits⟩⟩,
    fn_Mode_digits := fun_mk (st := s_Mode_digits) l_Mode_digits co_Mode_digits kp_Mode_digits,
    m_ModeD_lenD := ⟨at_ModeD_lenD, fi_ModeD_lenD, kp_ModeD_lenD⟩,
    fn_ModeD_lenD := fun_mk (st := s_ModeD_lenD) l_ModeD_lenD co_ModeD_lenD kp_ModeD_lenD,
    m_ModeD_boolD := ⟨at_ModeD_boolD, fi_ModeD_boolD, kp_ModeD_boolD⟩,
    fn_ModeD_boolD := fun_mk (st := s_ModeD_boolD) l_ModeD_boolD co_ModeD_boolD kp_ModeD_boolD,
    m_ModeD_eqD := ⟨at_ModeD_eqD, fi_ModeD_eqD, kp_ModeD_eqD⟩,
    fn_ModeD_eqD := fun_mk (st := s_ModeD_eqD) l_ModeD_eqD co_ModeD_eqD kp_ModeD_eqD,
    m_ModeD_strD := ⟨at_ModeD_strD, fi_ModeD_strD, kp_ModeD_strD⟩,
    fn_ModeD_strD := fun_mk (st := s_ModeD_strD) l_ModeD_strD co_ModeD_strD kp_ModeD_strD,
    m_ModeD_reprD := ⟨at_ModeD_reprD, fi_ModeD_reprD, kp_ModeD_reprD⟩,
    fn_ModeD_reprD := fun_mk (st := s_ModeD_reprD) l_ModeD_reprD co_ModeD_reprD kp_ModeD_reprD,
    r_Mode := ⟨rd_Mode, ga_Mode⟩,
    k_Mode_MOST := ⟨_, ⟨cv_Mode_MOST, ⟨_, rfl⟩⟩⟩,
    m_Mode_of := ⟨at_Mode_of, ⟨_, rc_Mode_of⟩, kp_Mode_of⟩,
    fn_Mode_of := fun_mk (st := s_Mode_of) l_Mode_of co_Mode_of kp_Mode_of,
    m_Mode_uniform := ⟨at_Mode_uniform, ⟨_, rc_Mode_uniform⟩, kp_Mode_uniform⟩,
    fn_Mode_uniform := fun_mk (st := s_Mode_uniform) l_Mode_uniform co_Mode_uniform kp_Mode_uniform,
    ia_Mode := ia_Mode,
    im_Mode := im_Mode,
    is_Mode := kit_self,
    ii_Mode := kit_no ci_Mode ti_Mode su_Mode,
    in_ := in0,
    it_ := it0,
    mg_NINE_BITS := PySem.W.mg_of X G a_NINE_BITS,
    t_NINE_BITS := fun H => tup_at lt_NINE_BITS sz_NINE_BITS vl_NINE_BITS,
    mg_NINE_SIGNS := ⟨_, PySem.W.mg_of X G a_NINE_SIGNS⟩,
    mg_BadMode := PySem.W.mg_of X G a_BadMode,
    mg_BadInput := PySem.W.mg_of X G a_BadInput,
    mg_NoWay := PySem.W.mg_of X G a_NoWay,
    mg_BadText := PySem.W.mg_of X G a_BadText,
    mg_ModesError := PySem.W.mg_of X G a_ModesError,
    ks_BadInput := kit_ref cix_BadInput tix_BadInput sux_BadInput nex_BadInput,
    ks_NoWay := kit_ref cix_NoWay tix_NoWay sux_NoWay nex_NoWay,
    ks_BadText := kit_ref cix_BadText tix_BadText sux_BadText nex_BadText,
    ks_BadMode := kit_self,
    ks_ValueError := kit_ve suv_B,
    ec_BadMode := ⟨ga_B, gg_B, ex_B, hd_B, cc_B, in0, it0, mr_B⟩,
    ox_BadMode := ⟨⟨_, _, _, _, _, _, _, _, _, _, _, _, _, _, _, xl_B, rf_B⟩, sa_B, ex_B, ty_B, kp_B⟩,
    ic_BadMode := in_B,
    it_BadMode := ti_B,
    np_BadMode := np_B,
    em_BadMode := exm_ref bex_ME cix_ModesError tix_ModesError sux_ME,
    fn_BadModeD_initD := fun_mk (st := s_BadModeD_initD) l_BadModeD_initD co_BadModeD_initD kp_BadModeD_initD,
    mg__law_heard := PySem.W.mg_of X G a__law_heard,
    fn__law_heard := fun_mk (st := s__law_heard) l__law_heard co__law_heard kp__law_heard,
    nf_Mode := nf_Mode,
    nf_NoneType := nf_NoneType,
    nf_bool := nf_bool,
    nf_str := nf_str,
    nf_tuple := nf_tuple,
    nf_list := nf_list,
    nf_dict := nf_dict,
    nf_int := nf_int,
    nt_NoneType := kit_noT ci_Mode ti_Mode sn_NoneType,
    nt_bool := kit_noT ci_Mode ti_Mode sn_bool,
    nt_str := kit_noT ci_Mode ti_Mode sn_str,
    nt_tuple := kit_noT ci_Mode ti_Mode sn_tuple,
    nt_list := kit_noT ci_Mode ti_Mode sn_list,
    nt_dict := kit_noT ci_Mode ti_Mode sn_dict,
    cr := ⟨_, _, _, _, _, _, _, _, rfl, l__law_digits_right⟩,
    cr_code := co__law_digits_right,
    PRP0 := ne_PR
  }
  refine ⟨PySem.W.fnOf "law" "law" (defArgs s_law) (defBody s_law) (defScope s_law) .none kV_law dc_law pm_law an_law (.ref cA) ct_law, [(cA, P0), (cR, PR)], spLaw K { f_is_whole := f_is_whole, d_is_whole := PySem.W.fnOf "is_whole" "is_whole" (defArgs s_is_whole) (defBody s_is_whole) (defScope s_is_whole) .none kV_is_whole dc_is_whole pm_is_whole an_is_whole cd_is_whole ct_is_whole, f_is_whole_to := f_is_whole_to, d_is_whole_to := PySem.W.fnOf "is_whole_to" "is_whole_to" (defArgs s_is_whole_to) (defBody s_is_whole_to) (defScope s_is_whole_to) .none kV_is_whole_to dc_is_whole_to pm_is_whole_to an_is_whole_to cd_is_whole_to ct_is_whole_to, f_bits_of := f_bits_of, d_bits_of := PySem.W.fnOf "bits_of" "bits_of" (defArgs s_bits_of) (defBody s_bits_of) (defScope s_bits_of) .none kV_bits_of dc_bits_of pm_bits_of an_bits_of cd_bits_of ct_bits_of, f__law_bag := f__law_bag, d__law_bag := PySem.W.fnOf "_law_bag" "_law_bag" (defArgs s__law_bag) (defBody s__law_bag) (defScope s__law_bag) .none kV__law_bag dc__law_bag pm__law_bag an__law_bag cd__law_bag ct__law_bag, f__law_draw := f__law_draw, d__law_draw := PySem.W.fnOf "_law_draw" "_law_draw" (defArgs s__law_draw) (defBody s__law_draw) (defScope s__law_draw) .none kV__law_draw dc__law_draw pm__law_draw an__law_draw cd__law_draw ct__law_draw, f__law_same := f__law_same, d__law_same := PySem.W.fnOf "_law_same" "_law_same" (defArgs s__law_same) (defBody s__law_same) (defScope s__law_same) .none kV__law_same dc__law_same pm__law_same an__law_same cd__law_same ct__law_same, f__law_odd_value := f__law_odd_value, d__law_odd_value := PySem.W.fnOf "_law_odd_value" "_law_odd_value" (defArgs s__law_odd_value) (defBody s__law_odd_value) (defScope s__law_odd_value) .none kV__law_odd_value dc__law_odd_value pm__law_odd_value an__law_odd_value cd__law_odd_value ct__law_odd_value, f__law_signs := f__law_signs, d__law_signs := PySem.W.fnOf "_law_signs" "_law_signs" (defArgs s__law_signs) (defBody s__law_signs) (defScope s__law_signs) .none kV__law_signs dc__law_signs pm__law_signs an__law_signs cd__law_signs ct__law_signs, f__law_right := f__law_right, d__law_right := PySem.W.fnOf "_law_right" "_law_right" (defArgs s__law_right) (defBody s__law_right) (defScope s__law_right) .none kV__law_right dc__law_right pm__law_right an__law_right cd__law_right ct__law_right, f__law_digits_right := f__law_digits_right, d__law_digits_right := PySem.W.fnOf "_law_digits_right" "_law_digits_right" (defArgs s__law_digits_right) (defBody s__law_digits_right) (defScope s__law_digits_right) .none kV__law_digits_right dc__law_digits_right pm__law_digits_right an__law_digits_right (.ref cR) ct__law_digits_right, f_Mode := f_Mode, f_ModeD_initD := f_ModeD_initD, d_ModeD_initD := PySem.W.fnOf "__init__" "Mode.__init__" (defArgs s_ModeD_initD) (defBody s_ModeD_initD) (defScope s_ModeD_initD) .none kV_ModeD_initD dc_ModeD_initD pm_ModeD_initD an_ModeD_initD cd_ModeD_initD ct_ModeD_initD, f_Mode_number := f_Mode_number, d_Mode_number := PySem.W.fnOf "number" "Mode.number" (defArgs s_Mode_number) (defBody s_Mode_number) (defScope s_Mode_number) .none kV_Mode_number dc_Mode_number pm_Mode_number an_Mode_number cd_Mode_number ct_Mode_number, p_Mode_number := p_Mode_number, f_Mode_digits := f_Mode_digits, d_Mode_digits := PySem.W.fnOf "digits" "Mode.digits" (defArgs s_Mode_digits) (defBody s_Mode_digits) (defScope s_Mode_digits) .none kV_Mode_digits dc_Mode_digits pm_Mode_digits an_Mode_digits cd_Mode_digits ct_Mode_digits, p_Mode_digits := p_Mode_digits, f_ModeD_lenD := f_ModeD_lenD, d_ModeD_lenD := PySem.W.fnOf "__len__" "Mode.__len__" (defArgs s_ModeD_lenD) (defBody s_ModeD_lenD) (defScope s_ModeD_lenD) .none kV_ModeD_lenD dc_ModeD_lenD pm_ModeD_lenD an_ModeD_lenD cd_ModeD_lenD ct_ModeD_lenD, f_ModeD_boolD := f_ModeD_boolD, d_ModeD_boolD := PySem.W.fnOf "__bool__" "Mode.__bool__" (defArgs s_ModeD_boolD) (defBody s_ModeD_boolD) (defScope s_ModeD_boolD) .none kV_ModeD_boolD dc_ModeD_boolD pm_ModeD_boolD an_ModeD_boolD cd_ModeD_boolD ct_ModeD_boolD, f_ModeD_eqD := f_ModeD_eqD, d_ModeD_eqD := PySem.W.fnOf "__eq__" "Mode.__eq__" (defArgs s_ModeD_eqD) (defBody s_ModeD_eqD) (defScope s_ModeD_eqD) .none kV_ModeD_eqD dc_ModeD_eqD pm_ModeD_eqD an_ModeD_eqD cd_ModeD_eqD ct_ModeD_eqD, f_ModeD_strD := f_ModeD_strD, d_ModeD_strD := PySem.W.fnOf "__str__" "Mode.__str__" (defArgs s_ModeD_strD) (defBody s_ModeD_strD) (defScope s_ModeD_strD) .none kV_ModeD_strD dc_ModeD_strD pm_ModeD_strD an_ModeD_strD cd_ModeD_strD ct_ModeD_strD, f_ModeD_reprD := f_ModeD_reprD, d_ModeD_reprD := PySem.W.fnOf "__repr__" "Mode.__repr__" (defArgs s_ModeD_reprD) (defBody s_ModeD_reprD) (defScope s_ModeD_reprD) .none kV_ModeD_reprD dc_ModeD_reprD pm_ModeD_reprD an_ModeD_reprD cd_ModeD_reprD ct_ModeD_reprD, f_Mode_of := f_Mode_of, d_Mode_of := PySem.W.fnOf "of" "Mode.of" (defArgs s_Mode_of) (defBody s_Mode_of) (defScope s_Mode_of) .none kV_Mode_of dc_Mode_of pm_Mode_of an_Mode_of cd_Mode_of ct_Mode_of, p_Mode_of := p_Mode_of, f_Mode_uniform := f_Mode_uniform, d_Mode_uniform := PySem.W.fnOf "uniform" "Mode.uniform" (defArgs s_Mode_uniform) (defBody s_Mode_uniform) (defScope s_Mode_uniform) .none kV_Mode_uniform dc_Mode_uniform pm_Mode_uniform an_Mode_uniform cd_Mode_uniform ct_Mode_uniform, p_Mode_uniform := p_Mode_uniform, k_NINE_BITS := k_NINE_BITS, x_BadMode := x_BadMode, x_BadInput := x_BadInput, x_NoWay := x_NoWay, x_BadText := x_BadText, x_ModesError := x_ModesError, f_BadModeD_initD := f_BadModeD_initD, d_BadModeD_initD := PySem.W.fnOf "__init__" "BadMode.__init__" (defArgs s_BadModeD_initD) (defBody s_BadModeD_initD) (defScope s_BadModeD_initD) .none kV_BadModeD_initD dc_BadModeD_initD pm_BadModeD_initD an_BadModeD_initD cd_BadModeD_initD ct_BadModeD_initD, f__law_heard := f__law_heard, d__law_heard := PySem.W.fnOf "_law_heard" "_law_heard" (defArgs s__law_heard) (defBody s__law_heard) (defScope s__law_heard) .none kV__law_heard dc__law_heard pm__law_heard an__law_heard cd__law_heard ct__law_heard, cA := cA, P0 := P0, cR := cR, PR := PR }, fun p hp => ?_, fun p hp => ?_, fun p hp => ?_, fun s v => .of_eq rfl, fun H b ns hl hT hS => ⟨b, ns, rfl, hS, hl, hT (cR, PR) (List.mem_cons_of_mem _ (List.mem_singleton.mpr rfl)), hT (cA, P0) (List.mem_cons_self ..), fun _ => rfl⟩, fun base _ _ TB => (ok_law T l_law co_law (TB (cR, PR) (List.mem_cons_of_mem _ (List.mem_singleton.mpr rfl))) (TB (cA, P0) (List.mem_cons_self ..))).run callerA rfl ⟨rfl, by decide, by decide⟩⟩
  · rcases List.mem_cons.mp hp with rfl | hp
    · exact tb_P0
    · rw [List.mem_singleton.mp hp]; exact tb_PR
  · rcases List.mem_cons.mp hp with rfl | hp
    · exact kl_P0
    · rw [List.mem_singleton.mp hp]; exact kl_PR
  · rcases List.mem_cons.mp hp with rfl | hp
    · exact ch_P0
    · rw [List.mem_singleton.mp hp]; exact ch_PR
end KD
open PySem PySem.W PyProof.Rows
set_option maxRecDepth 100000 in
set_option maxHeartbeats 0 in
theorem PySem.Challenge.cw_modesdown_k01_modes_made_holds : PySem.Challenge.rw_modesdown_k01_modes_made.Holds := by
  w_on; o_law; k_head; (case hw => w_witness2)
  k_fill
  refine KD.walk_tabs (x := "_law_script") rfl rfl (fun w h Y => PySem.W.km_in_of Y) ?F
  case F =>
    intro w mg fa h Y kIn G hmg
    refine' KD.all_mk kIn G hmg ?z_ValueError ?z_isinstance ?z_int ?z_bool ?z_str ?z_list ?z_len ?z_abs ?z_range ?z_tuple ?z_zip ?z_repr ?a_is_whole ?l_is_whole ?co_is_whole ?kp_is_whole ?a_is_whole_to ?l_is_whole_to ?co_is_whole_to ?kp_is_whole_to ?a_bits_of ?l_bits_of ?co_bits_of ?kp_bits_of ?a__law_bag ?l__law_bag ?co__law_bag ?kp__law_bag ?a__law_draw ?l__law_draw ?co__law_draw ?kp__law_draw ?a__law_same ?l__law_same ?co__law_same ?kp__law_same ?a__law_odd_value ?l__law_odd_value ?co__law_odd_value ?kp__law_odd_value ?a__law_signs ?l__law_signs ?co__law_signs ?kp__law_signs ?a__law_right ?l__law_right ?co__law_right ?kp__law_right ?a__law_digits_right ?l__law_digits_right ?co__law_digits_right ?kp__law_digits_right ?a_Mode ?pg_Mode ?hd_Mode ?po_Mode ?sa_Mode ?n_number_Mode ?at_ModeD_initD ?fi_ModeD_initD ?l_ModeD_initD ?co_ModeD_initD ?kp_ModeD_initD ?mk_Mode ?kc_Mode ?at_Mode_number ?ge_Mode_number ?ta_Mode_number ?rc_Mode_number ?l_Mode_number ?co_Mode_number ?kp_Mode_number ?at_Mode_digits ?ge_Mode_digits ?ta_Mode_digits ?rc_Mode_digits ?l_Mode_digits ?co_Mode_digits ?kp_Mode_digits ?at_ModeD_lenD ?fi_ModeD_lenD ?l_ModeD_lenD ?co_ModeD_lenD ?kp_ModeD_lenD ?at_ModeD_boolD ?fi_ModeD_boolD ?l_ModeD_boolD ?co_ModeD_boolD ?kp_ModeD_boolD ?at_ModeD_eqD ?fi_ModeD_eqD ?l_ModeD_eqD ?co_ModeD_eqD ?kp_ModeD_eqD ?at_ModeD_strD ?fi_ModeD_strD ?l_ModeD_strD ?co_ModeD_strD ?kp_ModeD_strD ?at_ModeD_reprD ?fi_ModeD_reprD ?l_ModeD_reprD ?co_ModeD_reprD ?kp_ModeD_reprD ?rd_Mode ?ga_Mode ?cv_Mode_MOST ?at_Mode_of ?rc_Mode_of ?l_Mode_of ?co_Mode_of ?kp_Mode_of ?at_Mode_uniform ?rc_Mode_uniform ?l_Mode_uniform ?co_Mode_uniform ?kp_Mode_uniform ?ia_Mode ?im_Mode ?ci_Mode ?ti_Mode ?su_Mode ?in0 ?it0 ?a_NINE_BITS ?lt_NINE_BITS ?sz_NINE_BITS ?vl_NINE_BITS ?a_NINE_SIGNS ?a_BadMode ?a_BadInput ?a_NoWay ?a_BadText ?a_ModesError ?xl_B ?rf_B ?sa_B ?ex_B ?ty_B ?kp_B ?ga_B ?gg_B ?hd_B ?cc_B ?mr_B ?np_B ?in_B ?ti_B ?l_BadModeD_initD ?co_BadModeD_initD ?kp_BadModeD_initD ?cix_BadInput ?tix_BadInput ?cix_NoWay ?tix_NoWay ?cix_BadText ?tix_BadText ?cix_ModesError ?tix_ModesError ?sux_BadInput ?nex_BadInput ?sux_NoWay ?nex_NoWay ?sux_BadText ?nex_BadText ?suv_B ?bex_ME ?sux_ME ?a__law_heard ?l__law_heard ?co__law_heard ?kp__law_heard ?nf_Mode ?nf_NoneType ?nf_bool ?nf_str ?nf_tuple ?nf_list ?nf_dict ?nf_int ?sn_NoneType ?sn_bool ?sn_str ?sn_tuple ?sn_list ?sn_dict ?a_law ?l_law ?co_law ?kp_law ?lc_P0 ?v11_P0 ?ch_P0 ?kl_P0 ?tb_P0 ?lc_PR ?v11_PR ?ch_PR ?kl_PR ?tb_PR ?ne_PR
    (case z_ValueError => k_is)
    (case z_isinstance => k_is)
    (case z_int => k_is)
    (case z_bool => k_is)
    (case z_str => k_is)
    (case z_list => k_is)
    (case z_len => k_is)
    (case z_abs => k_is)
    (case z_range => k_is)
    (case z_tuple => k_is)
    (case z_zip => k_is)
    (case z_repr => k_is)
    (case a_is_whole => k_is)
    (case l_is_whole => k_is)
    (case co_is_whole => k_is)
    (case kp_is_whole => k_is)
    (case a_is_whole_to => k_is)
    (case l_is_whole_to => k_is)
    (case co_is_whole_to => k_is)
    (case kp_is_whole_to => k_is)
    (case a_bits_of => k_is)
    (case l_bits_of => k_is)
    (case co_bits_of => k_is)
    (case kp_bits_of => k_is)
    (case a__law_bag => k_is)
    (case l__law_bag => k_is)
    (case co__law_bag => k_is)
    (case kp__law_bag => k_is)
    (case a__law_draw => k_is)
    (case l__law_draw => k_is)
    (case co__law_draw => k_is)
    (case kp__law_draw => k_is)
    (case a__law_same => k_is)
    (case l__law_same => k_is)
    (case co__law_same => k_is)
    (case kp__law_same => k_is)
    (case a__law_odd_value => k_is)
    (case l__law_odd_value => k_is)
    (case co__law_odd_value => k_is)
    (case kp__law_odd_value => k_is)
    (case a__law_signs => k_is)
    (case l__law_signs => k_is)
    (case co__law_signs => k_is)
    (case kp__law_signs => k_is)
    (case a__law_right => k_is)
    (case l__law_right => k_is)
    (case co__law_right => k_is)
    (case kp__law_right => k_is)
    (case a__law_digits_right => k_is)
    (case l__law_digits_right => k_is)
    (case co__law_digits_right => k_is)
    (case kp__law_digits_right => k_is)
    (case a_Mode => k_is)
    (case pg_Mode => k_is)
    (case hd_Mode => k_is)
    (case po_Mode => k_is)
    (case sa_Mode => k_is)
    (case n_number_Mode => k_is)
    (case at_ModeD_initD => k_is)
    (case fi_ModeD_initD => k_is)
    (case l_ModeD_initD => k_is)
    (case co_ModeD_initD => k_is)
    (case kp_ModeD_initD => k_is)
    (case mk_Mode => k_is)
    (case kc_Mode => k_is)
    (case at_Mode_number => k_is)
    (case ge_Mode_number => k_is)
    (case ta_Mode_number => k_is)
    (case rc_Mode_number => k_is)
    (case l_Mode_number => k_is)
    (case co_Mode_number => k_is)
    (case kp_Mode_number => k_is)
    (case at_Mode_digits => k_is)
    (case ge_Mode_digits => k_is)
    (case ta_Mode_digits => k_is)
    (case rc_Mode_digits => k_is)
    (case l_Mode_digits => k_is)
    (case co_Mode_digits => k_is)
    (case kp_Mode_digits => k_is)
    (case at_ModeD_lenD => k_is)
    (case fi_ModeD_lenD => k_is)
    (case l_ModeD_lenD => k_is)
    (case co_ModeD_lenD => k_is)
    (case kp_ModeD_lenD => k_is)
    (case at_ModeD_boolD => k_is)
    (case fi_ModeD_boolD => k_is)
    (case l_ModeD_boolD => k_is)
    (case co_ModeD_boolD => k_is)
    (case kp_ModeD_boolD => k_is)
    (case at_ModeD_eqD => k_is)
    (case fi_ModeD_eqD => k_is)
    (case l_ModeD_eqD => k_is)
    (case co_ModeD_eqD => k_is)
    (case kp_ModeD_eqD => k_is)
    (case at_ModeD_strD => k_is)
    (case fi_ModeD_strD => k_is)
    (case l_ModeD_strD => k_is)
    (case co_ModeD_strD => k_is)
    (case kp_ModeD_strD => k_is)
    (case at_ModeD_reprD => k_is)
    (case fi_ModeD_reprD => k_is)
    (case l_ModeD_reprD => k_is)
    (case co_ModeD_reprD => k_is)
    (case kp_ModeD_reprD => k_is)
    (case rd_Mode => k_is)
    (case ga_Mode => k_is)
    (case cv_Mode_MOST => k_is)
    (case at_Mode_of => k_is)
    (case rc_Mode_of => k_is)
    (case l_Mode_of => k_is)
    (case co_Mode_of => k_is)
    (case kp_Mode_of => k_is)
    (case at_Mode_uniform => k_is)
    (case rc_Mode_uniform => k_is)
    (case l_Mode_uniform => k_is)
    (case co_Mode_uniform => k_is)
    (case kp_Mode_uniform => k_is)
    (case ia_Mode => k_is)
    (case im_Mode => k_is)
    (case ci_Mode => k_is)
    (case ti_Mode => k_is)
    (case su_Mode => k_is)
    (case in0 => k_is)
    (case it0 => k_is)
    (case a_NINE_BITS => k_is)
    (case lt_NINE_BITS => k_is)
    (case sz_NINE_BITS => (exact Nat.le_of_lt (L2.small1000 (by decide))))
    (case vl_NINE_BITS => exact (.cons ⟨_, rfl⟩ (.cons ⟨_, rfl⟩ (.cons ⟨_, rfl⟩ (.cons ⟨_, rfl⟩ (.cons ⟨_, rfl⟩ (.cons ⟨_, rfl⟩ (.cons ⟨_, rfl⟩ (.cons ⟨_, rfl⟩ (.cons ⟨_, rfl⟩ .nil))))))))))
    (case a_NINE_SIGNS => k_is)
    (case a_BadMode => k_is)
    (case a_BadInput => k_is)
    (case a_NoWay => k_is)
    (case a_BadText => k_is)
    (case a_ModesError => k_is)
    (case xl_B => k_is)
    (case rf_B => decide +kernel)
    (case sa_B => k_is)
    (case ex_B => k_is)
    (case ty_B => k_is)
    (case kp_B => k_is)
    (case ga_B => k_is)
    (case gg_B => k_is)
    (case hd_B => k_is)
    (case cc_B => k_is)
    (case mr_B => k_is)
    (case np_B => k_is)
    (case in_B => k_is)
    (case ti_B => k_is)
    (case l_BadModeD_initD => k_is)
    (case co_BadModeD_initD => k_is)
    (case kp_BadModeD_initD => k_is)
    (case cix_BadInput => k_is)
    (case tix_BadInput => k_is)
    (case cix_NoWay => k_is)
    (case tix_NoWay => k_is)
    (case cix_BadText => k_is)
    (case tix_BadText => k_is)
    (case cix_ModesError => k_is)
    (case tix_ModesError => k_is)
    (case sux_BadInput => k_is)
    (case nex_BadInput => decide)
    (case sux_NoWay => k_is)
    (case nex_NoWay => decide)
    (case sux_BadText => k_is)
    (case nex_BadText => decide)
    (case suv_B => k_is)
    (case bex_ME => k_is)
    (case sux_ME => k_is)
    (case a__law_heard => k_is)
    (case l__law_heard => k_is)
    (case co__law_heard => k_is)
    (case kp__law_heard => k_is)
    (case nf_Mode => k_is)
    (case nf_NoneType => k_is)
    (case nf_bool => k_is)
    (case nf_str => k_is)
    (case nf_tuple => k_is)
    (case nf_list => k_is)
    (case nf_dict => k_is)
    (case nf_int => k_is)
    (case sn_NoneType => k_is)
    (case sn_bool => k_is)
    (case sn_str => k_is)
    (case sn_tuple => k_is)
    (case sn_list => k_is)
    (case sn_dict => k_is)
    (case a_law => k_is)
    (case l_law => k_is)
    (case co_law => k_is)
    (case kp_law => k_is)
    (case lc_P0 => k_is)
    (case v11_P0 => rfl)
    (case ch_P0 => kernel_rfl)
    (case kl_P0 => first | k_is | kernel_rfl)
    (case tb_P0 => exact PySem.W.km_tabs_of Y _ (by k_mem))
    (case lc_PR => k_is)
    (case v11_PR => rfl)
    (case ch_PR => kernel_rfl)
    (case kl_PR => first | k_is | kernel_rfl)
    (case tb_PR => exact PySem.W.km_tabs_of Y _ (by k_mem))
    (case ne_PR => decide)
