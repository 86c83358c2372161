import PyProof.Rows.All
import Wide.All
import OpenK.AllK
import Wide.FinOn
import HandS.ForMost
import HandS.Property
import HandS.IsInst
import HandS.ClsMeth
import HandS.Conv
import HandS.Wide
import HandS.WideBits
import HandS.Star
import HandS.Flow
import HandS.Evl
import HandS.More
import HandS.Zip
import HandS.MethStar
import HandS.Strs
import HandS.ExcInit
import HandS.WordsExc
import HandS.ExcIs
import KE.KDictKeyed
import HandS.SlotsOwn
import HandS.Lambda
import KE.KExcIs
import HandS.EndTab
import KE.KNestM

import PySem.Challenge.RW_modesdown_k04_patterns_of_letters

set_option Elab.async false
set_option linter.all false
set_option maxRecDepth 100000
set_option maxHeartbeats 4000000
namespace KZ
open PySem L2
def top (i : Nat) : Stmt := PySem.Challenge.pw_modesdown_k04_patterns_of_letters.main.body.getD i (.Pass ⟨0, 0, 0, 0⟩)
abbrev s_is_whole : Stmt := top 1
abbrev s_is_whole_to : Stmt := top 2
abbrev s_BadModeD_initD : Stmt := inClass (top 7) 0
abbrev s_BadTextD_initD : Stmt := inClass (top 8) 0
abbrev s_pattern_in : Stmt := top 13
abbrev s_bits_of : Stmt := top 14
abbrev s_weight_of : Stmt := top 15
abbrev s_ModeD_initD : Stmt := inClass (top 16) 1
abbrev s_Mode_read : Stmt := inClass (top 16) 2
abbrev s_Mode_of : Stmt := inClass (top 16) 3
abbrev s_Mode_uniform : Stmt := inClass (top 16) 4
abbrev s_Mode_number : Stmt := inClass (top 16) 5
abbrev s_Mode_digits : Stmt := inClass (top 16) 6
abbrev s_Mode_pattern : Stmt := inClass (top 16) 7
abbrev s_Mode_with_pattern : Stmt := inClass (top 16) 8
abbrev s_ModeD_orD : Stmt := inClass (top 16) 9
abbrev s_ModeD_rorD : Stmt := inClass (top 16) 10
abbrev s_ModeD_andD : Stmt := inClass (top 16) 11
abbrev s_ModeD_randD : Stmt := inClass (top 16) 12
abbrev s_ModeD_xorD : Stmt := inClass (top 16) 13
abbrev s_ModeD_rxorD : Stmt := inClass (top 16) 14
abbrev s_ModeD_invertD : Stmt := inClass (top 16) 15
abbrev s_ModeD_containsD : Stmt := inClass (top 16) 16
abbrev s_ModeD_lenD : Stmt := inClass (top 16) 17
abbrev s_ModeD_boolD : Stmt := inClass (top 16) 18
abbrev s_ModeD_eqD : Stmt := inClass (top 16) 19
abbrev s_ModeD_strD : Stmt := inClass (top 16) 20
abbrev s_ModeD_reprD : Stmt := inClass (top 16) 21
abbrev s_may_stand : Stmt := top 17
abbrev s_number_of : Stmt := top 18
abbrev s__law_bag : Stmt := top 20
abbrev s__law_draw : Stmt := top 21
abbrev s__law_same : Stmt := top 22
abbrev s__law_heard : Stmt := top 23
abbrev s__law_pattern : Stmt := top 24
abbrev s__law_with : Stmt := top 25
abbrev s__law_right : Stmt := top 26
abbrev s_law : Stmt := top 27
abbrev n_is_whole : List Str := ["value"]
theorem sc_is_whole : FnScope n_is_whole ["value"] (defScope s_is_whole) := ⟨rfl, rfl, rfl, by decide +kernel, rfl, by decide +kernel, by decide +kernel⟩
abbrev n_is_whole_to : List Str := ["value", "most"]
theorem sc_is_whole_to : FnScope n_is_whole_to ["value", "most"] (defScope s_is_whole_to) := ⟨rfl, rfl, rfl, by decide +kernel, rfl, by decide +kernel, by decide +kernel⟩
abbrev n_BadModeD_initD : List Str := ["self", "part"]
theorem sc_BadModeD_initD : FnScope n_BadModeD_initD ["self", "part"] (defScope s_BadModeD_initD) := ⟨rfl, rfl, rfl, by decide +kernel, rfl, by decide +kernel, by decide +kernel⟩
abbrev n_BadTextD_initD : List Str := ["self", "line", "word"]
theorem sc_BadTextD_initD : FnScope n_BadTextD_initD ["self", "line", "word"] (defScope s_BadTextD_initD) := ⟨rfl, rfl, rfl, by decide +kernel, rfl, by decide +kernel, by decide +kernel⟩
abbrev n_pattern_in : List Str := ["number", "weight", "bits"]
theorem sc_pattern_in : FnScope n_pattern_in ["number", "weight"] (defScope s_pattern_in) := ⟨rfl, rfl, rfl, by decide +kernel, rfl, by decide +kernel, by decide +kernel⟩
abbrev n_bits_of : List Str := ["pattern", "weight"]
theorem sc_bits_of : FnScope n_bits_of ["pattern", "weight"] (defScope s_bits_of) := ⟨rfl, rfl, rfl, by decide +kernel, rfl, by decide +kernel, by decide +kernel⟩
abbrev n_weight_of : List Str := ["letter"]
theorem sc_weight_of : FnScope n_weight_of ["letter"] (defScope s_weight_of) := ⟨rfl, rfl, rfl, by decide +kernel, rfl, by decide +kernel, by decide +kernel⟩
abbrev n_ModeD_initD : List Str := ["self", "number"]
theorem sc_ModeD_initD : FnScope n_ModeD_initD ["self", "number"] (defScope s_ModeD_initD) := ⟨rfl, rfl, rfl, by decide +kernel, rfl, by decide +kernel, by decide +kernel⟩
abbrev n_Mode_read : List Str := ["cls", "text", "number", "at", "sign"]
theorem sc_Mode_read : FnScope n_Mode_read ["cls", "text"] (defScope s_Mode_read) := ⟨rfl, rfl, rfl, by decide +kernel, rfl, by decide +kernel, by decide +kernel⟩
abbrev n_Mode_of : List Str := ["owner", "group", "others", "part", "digit"]
theorem sc_Mode_of : FnScope n_Mode_of ["owner", "group", "others"] (defScope s_Mode_of) := ⟨rfl, rfl, rfl, by decide +kernel, rfl, by decide +kernel, by decide +kernel⟩
abbrev n_Mode_uniform : List Str := ["pattern"]
theorem sc_Mode_uniform : FnScope n_Mode_uniform ["pattern"] (defScope s_Mode_uniform) := ⟨rfl, rfl, rfl, by decide +kernel, rfl, by decide +kernel, by decide +kernel⟩
abbrev n_Mode_number : List Str := ["self"]
theorem sc_Mode_number : FnScope n_Mode_number ["self"] (defScope s_Mode_number) := ⟨rfl, rfl, rfl, by decide +kernel, rfl, by decide +kernel, by decide +kernel⟩
abbrev n_Mode_digits : List Str := ["self"]
theorem sc_Mode_digits : FnScope n_Mode_digits ["self"] (defScope s_Mode_digits) := ⟨rfl, rfl, rfl, by decide +kernel, rfl, by decide +kernel, by decide +kernel⟩
abbrev n_Mode_pattern : List Str := ["self", "letter"]
theorem sc_Mode_pattern : FnScope n_Mode_pattern ["self", "letter"] (defScope s_Mode_pattern) := ⟨rfl, rfl, rfl, by decide +kernel, rfl, by decide +kernel, by decide +kernel⟩
abbrev n_Mode_with_pattern : List Str := ["self", "letter", "pattern", "weight", "kept"]
theorem sc_Mode_with_pattern : FnScope n_Mode_with_pattern ["self", "letter", "pattern"] (defScope s_Mode_with_pattern) := ⟨rfl, rfl, rfl, by decide +kernel, rfl, by decide +kernel, by decide +kernel⟩
abbrev n_ModeD_orD : List Str := ["self", "other"]
theorem sc_ModeD_orD : FnScope n_ModeD_orD ["self", "other"] (defScope s_ModeD_orD) := ⟨rfl, rfl, rfl, by decide +kernel, rfl, by decide +kernel, by decide +kernel⟩
abbrev n_ModeD_rorD : List Str := ["self", "other"]
theorem sc_ModeD_rorD : FnScope n_ModeD_rorD ["self", "other"] (defScope s_ModeD_rorD) := ⟨rfl, rfl, rfl, by decide +kernel, rfl, by decide +kernel, by decide +kernel⟩
abbrev n_ModeD_andD : List Str := ["self", "other"]
theorem sc_ModeD_andD : FnScope n_ModeD_andD ["self", "other"] (defScope s_ModeD_andD) := ⟨rfl, rfl, rfl, by decide +kernel, rfl, by decide +kernel, by decide +kernel⟩
abbrev n_ModeD_randD : List Str := ["self", "other"]
theorem sc_ModeD_randD : FnScope n_ModeD_randD ["self", "other"] (defScope s_ModeD_randD) := ⟨rfl, rfl, rfl, by decide +kernel, rfl, by decide +kernel, by decide +kernel⟩
abbrev n_ModeD_xorD : List Str := ["self", "other"]
theorem sc_ModeD_xorD : FnScope n_ModeD_xorD ["self", "other"] (defScope s_ModeD_xorD) := ⟨rfl, rfl, rfl, by decide +kernel, rfl, by decide +kernel, by decide +kernel⟩
abbrev n_ModeD_rxorD : List Str := ["self", "other"]
theorem sc_ModeD_rxorD : FnScope n_ModeD_rxorD ["self", "other"] (defScope s_ModeD_rxorD) := ⟨rfl, rfl, rfl, by decide +kernel, rfl, by decide +kernel, by decide +kernel⟩
abbrev n_ModeD_invertD : List Str := ["self"]
theorem sc_ModeD_invertD : FnScope n_ModeD_invertD ["self"] (defScope s_ModeD_invertD) := ⟨rfl, rfl, rfl, by decide +kernel, rfl, by decide +kernel, by decide +kernel⟩
abbrev n_ModeD_containsD : List Str := ["self", "bit", "bits"]
theorem sc_ModeD_containsD : FnScope n_ModeD_containsD ["self", "bit"] (defScope s_ModeD_containsD) := ⟨rfl, rfl, rfl, by decide +kernel, rfl, by decide +kernel, by decide +kernel⟩
abbrev n_ModeD_lenD : List Str := ["self", "bit"]
theorem sc_ModeD_lenD : FnScope n_ModeD_lenD ["self"] (defScope s_ModeD_lenD) := ⟨rfl, rfl, rfl, by decide +kernel, rfl, by decide +kernel, by decide +kernel⟩
abbrev n_ModeD_boolD : List Str := ["self"]
theorem sc_ModeD_boolD : FnScope n_ModeD_boolD ["self"] (defScope s_ModeD_boolD) := ⟨rfl, rfl, rfl, by decide +kernel, rfl, by decide +kernel, by decide +kernel⟩
abbrev n_ModeD_eqD : List Str := ["self", "other"]
theorem sc_ModeD_eqD : FnScope n_ModeD_eqD ["self", "other"] (defScope s_ModeD_eqD) := ⟨rfl, rfl, rfl, by decide +kernel, rfl, by decide +kernel, by decide +kernel⟩
abbrev n_ModeD_strD : List Str := ["self", "sign", "bit"]
theorem sc_ModeD_strD : FnScope n_ModeD_strD ["self"] (defScope s_ModeD_strD) := ⟨rfl, rfl, rfl, by decide +kernel, rfl, by decide +kernel, by decide +kernel⟩
abbrev n_ModeD_reprD : List Str := ["self"]
theorem sc_ModeD_reprD : FnScope n_ModeD_reprD ["self"] (defScope s_ModeD_reprD) := ⟨rfl, rfl, rfl, by decide +kernel, rfl, by decide +kernel, by decide +kernel⟩
abbrev n_may_stand : List Str := ["value"]
theorem sc_may_stand : FnScope n_may_stand ["value"] (defScope s_may_stand) := ⟨rfl, rfl, rfl, by decide +kernel, rfl, by decide +kernel, by decide +kernel⟩
abbrev n_number_of : List Str := ["mode"]
theorem sc_number_of : FnScope n_number_of ["mode"] (defScope s_number_of) := ⟨rfl, rfl, rfl, by decide +kernel, rfl, by decide +kernel, by decide +kernel⟩
abbrev n__law_bag : List Str := ["_law_script", "_law_state", "_law_cell"]
theorem sc__law_bag : FnScope n__law_bag ["_law_script"] (defScope s__law_bag) := ⟨rfl, rfl, rfl, by decide +kernel, rfl, by decide +kernel, by decide +kernel⟩
abbrev n__law_draw : List Str := ["_law_bag_here", "_law_limit", "_law_cell", "_law_mixed", "_law_found"]
theorem sc__law_draw : FnScope n__law_draw ["_law_bag_here", "_law_limit"] (defScope s__law_draw) := ⟨rfl, rfl, rfl, by decide +kernel, rfl, by decide +kernel, by decide +kernel⟩
abbrev n__law_same : List Str := ["_law_actual", "_law_expected", "_law_k"]
theorem sc__law_same : FnScope n__law_same ["_law_actual", "_law_expected"] (defScope s__law_same) := ⟨rfl, rfl, rfl, by decide +kernel, rfl, by decide +kernel, by decide +kernel⟩
abbrev n__law_heard : List Str := ["_law_ask", "error", "_law_marks"]
theorem sc__law_heard : FnScope n__law_heard ["_law_ask"] (defScope s__law_heard) := ⟨rfl, rfl, rfl, by decide +kernel, rfl, by decide +kernel, by decide +kernel⟩
abbrev n__law_pattern : List Str := ["_law_number", "_law_at", "_law_bits"]
theorem sc__law_pattern : FnScope n__law_pattern ["_law_number", "_law_at"] (defScope s__law_pattern) := ⟨rfl, rfl, rfl, by decide +kernel, rfl, by decide +kernel, by decide +kernel⟩
abbrev n__law_with : List Str := ["_law_number", "_law_at", "_law_cast", "_law_found", "_law_k", "_law_bit"]
theorem sc__law_with : FnScope n__law_with ["_law_number", "_law_at", "_law_cast"] (defScope s__law_with) := ⟨rfl, rfl, rfl, by decide +kernel, rfl, by decide +kernel, by decide +kernel⟩
abbrev n__law_right : List Str := ["_law_number", "_law_at", "_law_cast", "_law_mode", "_law_which", "_law_due", "_law_later", "_law_rest", "_law_other"]
theorem sc__law_right : FnScope n__law_right ["_law_number", "_law_at", "_law_cast"] (defScope s__law_right) := ⟨rfl, rfl, rfl, by decide +kernel, rfl, by decide +kernel, by decide +kernel⟩
abbrev n_law : List Str := ["_law_script", "_law_bag_here", "_law_k", "_law_number", "_law_at", "_law_cast", "_law_built", "_law_which", "_law_told", "_law_mode", "_law_odd", "_law_wrong"]
theorem sc_law : FnScope n_law ["_law_script"] (defScope s_law) := ⟨rfl, rfl, rfl, by decide +kernel, rfl, by decide +kernel, by decide +kernel⟩
end KZ
set_option Elab.async false
set_option linter.all false
set_option maxRecDepth 100000
set_option maxHeartbeats 4000000
namespace KZ
open PySem PySem.Spec PyProof.Rows L2 Evl
/-! tactics by name -/
local macro_rules | `(tactic| walk_at "ev") => `(tactic| repeat' (first | exact ev_c | exact ev_var rfl | exact rv_I0 | refine' rv_I ?_ | refine' rv_eq ?_ | refine' rv_ne ?_ | refine' ev_op ?_ ?_ ?_ | exact ea_nil | refine' ea_cons ?_ ?_ | refine' et_test ?_ | refine' et_B ?_ | refine' et_not ?_ | refine' ev_notV ?_))
/-! pure promises -/
def patN (n w : Nat) : Nat := 4 * (n / w / 64 % 2) + 2 * (n / w / 8 % 2) + n / w % 2
def bitsN (p w : Nat) : Nat := (64 * (p / 4 % 2) + 8 * (p / 2 % 2) + p % 2) * w
def spPat : Sp := fun vs H Q _ => ∃ n w : Nat, vs = [.int n, .int w] ∧ n < 512 ∧ (w = 1 ∨ w = 2 ∨ w = 4) ∧ ∀ H', Ex H H' → Q (.int (patN n w : Nat)) H'
def spBits : Sp := fun vs H Q _ => ∃ p w : Nat, vs = [.int p, .int w] ∧ p < 8 ∧ (w = 1 ∨ w = 2 ∨ w = 4) ∧ ∀ H', Ex H H' → Q (.int (bitsN p w : Nat)) H'
theorem all_nat {n : Nat} {p : Nat → Bool} (h : (List.range n).all p = true) : ∀ i, i < n → p i = true := fun i hi => List.all_eq_true.mp h i (List.mem_range.mpr hi)
theorem pat_is : ∀ w : Nat, (w = 1 ∨ w = 2 ∨ w = 4) → ∀ n : Nat, n < 512 → Builtin.bitOr (Builtin.bitOr (Builtin.bitAnd ((n : Int) / (w : Int) / 2 ^ (4 : Int).toNat) 4) (Builtin.bitAnd ((n : Int) / (w : Int) / 2 ^ (2 : Int).toNat) 2)) (Builtin.bitAnd ((n : Int) / (w : Int)) 1) = (patN n w : Nat) := by
  have h : (([1, 2, 4] : List Nat).all fun (w : Nat) => (List.range 512).all fun (n : Nat) => decide (Builtin.bitOr (Builtin.bitOr (Builtin.bitAnd ((n : Int) / (w : Int) / 2 ^ (4 : Int).toNat) 4) (Builtin.bitAnd ((n : Int) / (w : Int) / 2 ^ (2 : Int).toNat) 2)) (Builtin.bitAnd ((n : Int) / (w : Int)) 1) = (patN n w : Nat))) = true := by decide +kernel
  intro w hw n hn
  have h1 := List.all_eq_true.mp h w (by rcases hw with e | e | e <;> subst e <;> decide)
  exact of_decide_eq_true (all_nat h1 n hn)
theorem bits_is : ∀ w : Nat, (w = 1 ∨ w = 2 ∨ w = 4) → ∀ p : Nat, p < 8 → Builtin.bitOr (Builtin.bitOr (Builtin.bitAnd (p : Int) 4 * 2 ^ (4 : Int).toNat) (Builtin.bitAnd (p : Int) 2 * 2 ^ (2 : Int).toNat)) (Builtin.bitAnd (p : Int) 1) * (w : Int) = (bitsN p w : Nat) := by
  have h : (([1, 2, 4] : List Nat).all fun (w : Nat) => (List.range 8).all fun (p : Nat) => decide (Builtin.bitOr (Builtin.bitOr (Builtin.bitAnd (p : Int) 4 * 2 ^ (4 : Int).toNat) (Builtin.bitAnd (p : Int) 2 * 2 ^ (2 : Int).toNat)) (Builtin.bitAnd (p : Int) 1) * (w : Int) = (bitsN p w : Nat))) = true := by decide +kernel
  intro w hw n hn
  have h1 := List.all_eq_true.mp h w (by rcases hw with e | e | e <;> subst e <;> decide)
  exact of_decide_eq_true (all_nat h1 n hn)
theorem and_lt : ∀ p : Nat, p < 8 → (Builtin.bitAnd (p : Int) 4).natAbs < 2 ^ 64 ∧ (Builtin.bitAnd (p : Int) 2).natAbs < 2 ^ 64 := by
  have h : ((List.range 8).all fun (p : Nat) => decide ((Builtin.bitAnd (p : Int) 4).natAbs < 2 ^ 64 ∧ (Builtin.bitAnd (p : Int) 2).natAbs < 2 ^ 64)) = true := by decide +kernel
  exact fun p hp => of_decide_eq_true (all_nat h p hp)
section
variable {P : Program} {w : World} {K : PySem.W.Frag} {mg : Str → Option Value} {base : Heap}
theorem ok_pattern_in {f : Addr} {fd : FuncData} (F : Fun K "pattern_in" "pattern_in" s_pattern_in f fd) : FnOk P w K mg base CX0 1 f fd ["number", "weight"] spPat := by
  refine F.ok sc_pattern_in (fun vs H Q E h => ?_) (fun cdv A outer s H vs Q E hr h => ?_)
  · obtain ⟨_, _, rfl, _⟩ := h
    rfl
  · obtain ⟨n, w, rfl, hn, hw, k⟩ := h
    refine ⟨_, (pss_cons (ps_set (i := 2) sc_pattern_in.nd rfl (Or.inl rfl) (pe_op op_fdiv (pv 0) (pv 1)))
    (pss_one (ps_ret (pe_op op_or (pe_op op_or (pe_op op_and (pe_op op_shr (pv 2) pe_int) pe_int) (pe_op op_and (pe_op op_shr (pv 2) pe_int) pe_int)) (pe_op op_and (pv 2) pe_int))))), ?_⟩
    refine q_asg (by walk_at "ev"; exact ⟨by omega, by omega⟩) fun H1 e1 => ?_
    refine s_ret (v := .int (patN n w : Nat)) (ev_is (by walk_at "ev"; all_goals decide) (congrArg V.int (pat_is w hw n hn))) fun H2 e2 => ?_
    exact k H2 (e1.trans e2)
theorem ok_bits_of {f : Addr} {fd : FuncData} (F : Fun K "bits_of" "bits_of" s_bits_of f fd) : FnOk P w K mg base CX0 1 f fd ["pattern", "weight"] spBits := by
  refine F.ok sc_bits_of (fun vs H Q E h => ?_) (fun cdv A outer s H vs Q E hr h => ?_)
  · obtain ⟨_, _, rfl, _⟩ := h
    rfl
  · obtain ⟨n, w, rfl, hn, hw, k⟩ := h
    refine ⟨_, (pss_one (ps_ret (pe_op op_mul (pe_op op_or (pe_op op_or (pe_op op_shl (pe_op op_and (pv 0) pe_int) pe_int) (pe_op op_shl (pe_op op_and (pv 0) pe_int) pe_int)) (pe_op op_and (pv 0) pe_int)) (pv 1)))), ?_⟩
    refine s_ret (v := .int (bitsN n w : Nat)) (ev_is (by walk_at "ev"; exact ⟨by decide, by decide, (and_lt n hn).1⟩; exact ⟨by decide, by decide, (and_lt n hn).2⟩; exact Or.inr ⟨by omega, by omega⟩) (congrArg V.int (bits_is w hw n hn))) fun H2 e2 => ?_
    exact k H2 e2
end
end KZ
set_option Elab.async false
set_option linter.all false
set_option maxRecDepth 100000
set_option maxHeartbeats 4000000
namespace KZ
open PySem PySem.Spec PyProof.Rows L2 Evl
/-- C.m is a staticmethod: its record at p, its def at g -/
structure SMet (K : PySem.W.Frag) (C : Addr) (m : Str) (p g : Addr) : Prop where
  at_ : PySem.W.findCls K (.ref C) (.type "type") m = some (.get (.builtin "staticmethod.__get__") (.ref p) .none (.ref C))
  rc : ∃ rest, PySem.W.recIn K p "staticmethod" = some (.ref g :: rest)
  kp : PySem.W.keepIn K (.ref g) = true
def oddL : List Str := ["", "R", "X", "rw", "u", "r "]
structure Ads where
  f_weight_of : Addr
  d_weight_of : FuncData
  f_is_whole : Addr
  d_is_whole : FuncData
  f_is_whole_to : Addr
  d_is_whole_to : FuncData
  f_pattern_in : Addr
  d_pattern_in : FuncData
  f_bits_of : Addr
  d_bits_of : FuncData
  f_number_of : Addr
  d_number_of : FuncData
  f__law_bag : Addr
  d__law_bag : FuncData
  f__law_draw : Addr
  d__law_draw : FuncData
  f__law_same : Addr
  d__law_same : FuncData
  f__law_pattern : Addr
  d__law_pattern : FuncData
  f__law_with : Addr
  d__law_with : FuncData
  f__law_right : Addr
  d__law_right : FuncData
  f_law : Addr
  d_law : FuncData
  f_Mode : Addr
  f_ModeD_initD : Addr
  d_ModeD_initD : FuncData
  f_Mode_number : Addr
  d_Mode_number : FuncData
  p_Mode_number : Addr
  f_Mode_pattern : Addr
  d_Mode_pattern : FuncData
  f_Mode_with_pattern : Addr
  d_Mode_with_pattern : FuncData
  f_ModeD_eqD : Addr
  d_ModeD_eqD : FuncData
  f_Mode_uniform : Addr
  d_Mode_uniform : FuncData
  p_Mode_uniform : Addr
  k_WEIGHTS : Addr
  x_BadMode : Addr
  x_BadInput : Addr
  x_NoWay : Addr
  x_BadText : Addr
  f__law_heard : Addr
  d__law_heard : FuncData
  x_ModesError : Addr
  f_BadModeD_initD : Addr
  d_BadModeD_initD : FuncData
structure Txt (w : World) (K : PySem.W.Frag) (mg : Str → Option Value) (a : Ads) : Prop where
  b_ValueError : mg "ValueError" = none
  b_isinstance : mg "isinstance" = none
  b_int : mg "int" = none
  b_bool : mg "bool" = none
  b_str : mg "str" = none
  b_list : mg "list" = none
  b_len : mg "len" = none
  b_abs : mg "abs" = none
  b_range : mg "range" = none
  b_tuple : mg "tuple" = none
  mg_weight_of : mg "weight_of" = some (.ref a.f_weight_of)
  fn_weight_of : Fun K "weight_of" "weight_of" s_weight_of a.f_weight_of a.d_weight_of
  mg_is_whole : mg "is_whole" = some (.ref a.f_is_whole)
  fn_is_whole : Fun K "is_whole" "is_whole" s_is_whole a.f_is_whole a.d_is_whole
  mg_is_whole_to : mg "is_whole_to" = some (.ref a.f_is_whole_to)
  fn_is_whole_to : Fun K "is_whole_to" "is_whole_to" s_is_whole_to a.f_is_whole_to a.d_is_whole_to
  mg_pattern_in : mg "pattern_in" = some (.ref a.f_pattern_in)
  fn_pattern_in : Fun K "pattern_in" "pattern_in" s_pattern_in a.f_pattern_in a.d_pattern_in
  mg_bits_of : mg "bits_of" = some (.ref a.f_bits_of)
  fn_bits_of : Fun K "bits_of" "bits_of" s_bits_of a.f_bits_of a.d_bits_of
  mg_number_of : mg "number_of" = some (.ref a.f_number_of)
  fn_number_of : Fun K "number_of" "number_of" s_number_of a.f_number_of a.d_number_of
  mg__law_bag : mg "_law_bag" = some (.ref a.f__law_bag)
  fn__law_bag : Fun K "_law_bag" "_law_bag" s__law_bag a.f__law_bag a.d__law_bag
  mg__law_draw : mg "_law_draw" = some (.ref a.f__law_draw)
  fn__law_draw : Fun K "_law_draw" "_law_draw" s__law_draw a.f__law_draw a.d__law_draw
  mg__law_same : mg "_law_same" = some (.ref a.f__law_same)
  fn__law_same : Fun K "_law_same" "_law_same" s__law_same a.f__law_same a.d__law_same
  mg__law_pattern : mg "_law_pattern" = some (.ref a.f__law_pattern)
  fn__law_pattern : Fun K "_law_pattern" "_law_pattern" s__law_pattern a.f__law_pattern a.d__law_pattern
  mg__law_with : mg "_law_with" = some (.ref a.f__law_with)
  fn__law_with : Fun K "_law_with" "_law_with" s__law_with a.f__law_with a.d__law_with
  mg__law_right : mg "_law_right" = some (.ref a.f__law_right)
  fn__law_right : Fun K "_law_right" "_law_right" s__law_right a.f__law_right a.d__law_right
  mg_law : mg "law" = some (.ref a.f_law)
  fn_law : Fun K "law" "law" s_law a.f_law a.d_law
  mg_Mode : mg "Mode" = some (.ref a.f_Mode)
  c_Mode : Cls K a.f_Mode
  n_number_Mode : NoAttr K a.f_Mode "_number"
  mk_Mode : Mk K a.f_Mode a.f_ModeD_initD
  fn_ModeD_initD : Fun K "__init__" "Mode.__init__" s_ModeD_initD a.f_ModeD_initD a.d_ModeD_initD
  p_Mode_number : PropOf K a.f_Mode "number" a.p_Mode_number a.f_Mode_number
  fn_Mode_number : Fun K "number" "Mode.number" s_Mode_number a.f_Mode_number a.d_Mode_number
  m_Mode_pattern : Meth K a.f_Mode "pattern" a.f_Mode_pattern
  fn_Mode_pattern : Fun K "pattern" "Mode.pattern" s_Mode_pattern a.f_Mode_pattern a.d_Mode_pattern
  m_Mode_with_pattern : Meth K a.f_Mode "with_pattern" a.f_Mode_with_pattern
  fn_Mode_with_pattern : Fun K "with_pattern" "Mode.with_pattern" s_Mode_with_pattern a.f_Mode_with_pattern a.d_Mode_with_pattern
  m_ModeD_eqD : Meth K a.f_Mode "__eq__" a.f_ModeD_eqD
  fn_ModeD_eqD : Fun K "__eq__" "Mode.__eq__" s_ModeD_eqD a.f_ModeD_eqD a.d_ModeD_eqD
  r_Mode : ClX.CRead K a.f_Mode (.type "type")
  k_Mode_MOST : ∃ t, ClX.CVal K a.f_Mode (.type "type") "MOST" (.int 511) (.int 511 t)
  m_Mode_uniform : SMet K a.f_Mode "uniform" a.p_Mode_uniform a.f_Mode_uniform
  fn_Mode_uniform : Fun K "uniform" "Mode.uniform" s_Mode_uniform a.f_Mode_uniform a.d_Mode_uniform
  ia_Mode : PySem.W.findIn K (.ref a.f_Mode) "__class__" = some (some (.builtin "object.__class__"))
  im_Mode : PySem.W.mroIn K a.f_Mode (.type "object") = some true
  is_Mode : PySem.W.kitOne K (.ref a.f_Mode) (.ref a.f_Mode) = some true
  ii_Mode : PySem.W.kitOne K (.type "int") (.ref a.f_Mode) = some false
  in_ : PySem.W.specialIn K (.builtin "object.__class__") "__get__" = some (some (.builtin "getset_descriptor.__get__"))
  it_ : PySem.W.takesIn K (.builtin "object.__class__") = some true
  mg_BadMode : mg "BadMode" = some (.ref a.x_BadMode)
  mg_ModesError : mg "ModesError" = some (.ref a.x_ModesError)
  mg_BadInput : mg "BadInput" = some (.ref a.x_BadInput)
  mg_NoWay : mg "NoWay" = some (.ref a.x_NoWay)
  mg_BadText : mg "BadText" = some (.ref a.x_BadText)
  ks_BadInput : PySem.W.kitOne K (.ref a.x_BadMode) (.ref a.x_BadInput) = some true
  ks_NoWay : PySem.W.kitOne K (.ref a.x_BadMode) (.ref a.x_NoWay) = some false
  ks_BadText : PySem.W.kitOne K (.ref a.x_BadMode) (.ref a.x_BadText) = some false
  ks_BadMode : PySem.W.kitOne K (.ref a.x_BadMode) (.ref a.x_BadMode) = some true
  ks_ValueError : PySem.W.kitOne K (.ref a.x_BadMode) (.type "ValueError") = some true
  ec_BadMode : ExcC K a.x_BadMode
  mg__law_heard : mg "_law_heard" = some (.ref a.f__law_heard)
  fn__law_heard : Fun K "_law_heard" "_law_heard" s__law_heard a.f__law_heard a.d__law_heard
  ox_BadMode : OexC K a.x_BadMode
  ic_BadMode : PySem.W.findIn K (.ref a.x_BadMode) "__init__" = some (some (.ref a.f_BadModeD_initD))
  it_BadMode : PySem.W.typeIn K (.ref a.f_BadModeD_initD) = some (.type "function")
  fn_BadModeD_initD : Fun K "__init__" "BadMode.__init__" s_BadModeD_initD a.f_BadModeD_initD a.d_BadModeD_initD
  np_BadMode : PySem.W.findIn K (.ref a.x_BadMode) "part" = some none
  em_BadMode : PySem.W.exmOne K (.ref a.x_BadMode) (.ref a.x_ModesError) = some true
  mg_WEIGHTS : mg "WEIGHTS" = some (.ref a.k_WEIGHTS)
  d_WEIGHTS : ∃ es n, KDict K w a.k_WEIGHTS es n ∧ (∃ t, PySem.W.nsIn K a.k_WEIGHTS "r" = some (some (.int 4 t))) ∧ (∃ t, PySem.W.nsIn K a.k_WEIGHTS "w" = some (some (.int 2 t))) ∧ (∃ t, PySem.W.nsIn K a.k_WEIGHTS "x" = some (some (.int 1 t))) ∧ ∀ z ∈ oddL, PySem.W.nsIn K a.k_WEIGHTS z = some none
  nf_Mode : PySem.W.notFirst K a.f_Mode (.ref a.f_Mode) = true
theorem bd_weight_of {w : World} {K : PySem.W.Frag} {mg : Str → Option Value} {a : Ads} (T : Txt w K mg a) : Binds K a.d_weight_of ["letter"] [] := T.fn_weight_of.binds (ps := ["letter"]) fun _ _ _ _ _ _ us hl => match us, hl with | [_], _ => rfl
theorem bd_is_whole {w : World} {K : PySem.W.Frag} {mg : Str → Option Value} {a : Ads} (T : Txt w K mg a) : Binds K a.d_is_whole ["value"] [] := T.fn_is_whole.binds (ps := ["value"]) fun _ _ _ _ _ _ us hl => match us, hl with | [_], _ => rfl
theorem bd_is_whole_to {w : World} {K : PySem.W.Frag} {mg : Str → Option Value} {a : Ads} (T : Txt w K mg a) : Binds K a.d_is_whole_to ["value", "most"] [] := T.fn_is_whole_to.binds (ps := ["value", "most"]) fun _ _ _ _ _ _ us hl => match us, hl with | [_, _], _ => rfl
theorem bd_pattern_in {w : World} {K : PySem.W.Frag} {mg : Str → Option Value} {a : Ads} (T : Txt w K mg a) : Binds K a.d_pattern_in ["number", "weight"] [] := T.fn_pattern_in.binds (ps := ["number", "weight"]) fun _ _ _ _ _ _ us hl => match us, hl with | [_, _], _ => rfl
theorem bd_bits_of {w : World} {K : PySem.W.Frag} {mg : Str → Option Value} {a : Ads} (T : Txt w K mg a) : Binds K a.d_bits_of ["pattern", "weight"] [] := T.fn_bits_of.binds (ps := ["pattern", "weight"]) fun _ _ _ _ _ _ us hl => match us, hl with | [_, _], _ => rfl
theorem bd_number_of {w : World} {K : PySem.W.Frag} {mg : Str → Option Value} {a : Ads} (T : Txt w K mg a) : Binds K a.d_number_of ["mode"] [] := T.fn_number_of.binds (ps := ["mode"]) fun _ _ _ _ _ _ us hl => match us, hl with | [_], _ => rfl
theorem bd__law_bag {w : World} {K : PySem.W.Frag} {mg : Str → Option Value} {a : Ads} (T : Txt w K mg a) : Binds K a.d__law_bag ["_law_script"] [] := T.fn__law_bag.binds (ps := ["_law_script"]) fun _ _ _ _ _ _ us hl => match us, hl with | [_], _ => rfl
theorem bd__law_draw {w : World} {K : PySem.W.Frag} {mg : Str → Option Value} {a : Ads} (T : Txt w K mg a) : Binds K a.d__law_draw ["_law_bag_here", "_law_limit"] [] := T.fn__law_draw.binds (ps := ["_law_bag_here", "_law_limit"]) fun _ _ _ _ _ _ us hl => match us, hl with | [_, _], _ => rfl
theorem bd__law_same {w : World} {K : PySem.W.Frag} {mg : Str → Option Value} {a : Ads} (T : Txt w K mg a) : Binds K a.d__law_same ["_law_actual", "_law_expected"] [] := T.fn__law_same.binds (ps := ["_law_actual", "_law_expected"]) fun _ _ _ _ _ _ us hl => match us, hl with | [_, _], _ => rfl
theorem bd__law_pattern {w : World} {K : PySem.W.Frag} {mg : Str → Option Value} {a : Ads} (T : Txt w K mg a) : Binds K a.d__law_pattern ["_law_number", "_law_at"] [] := T.fn__law_pattern.binds (ps := ["_law_number", "_law_at"]) fun _ _ _ _ _ _ us hl => match us, hl with | [_, _], _ => rfl
theorem bd__law_with {w : World} {K : PySem.W.Frag} {mg : Str → Option Value} {a : Ads} (T : Txt w K mg a) : Binds K a.d__law_with ["_law_number", "_law_at", "_law_cast"] [] := T.fn__law_with.binds (ps := ["_law_number", "_law_at", "_law_cast"]) fun _ _ _ _ _ _ us hl => match us, hl with | [_, _, _], _ => rfl
theorem bd__law_right {w : World} {K : PySem.W.Frag} {mg : Str → Option Value} {a : Ads} (T : Txt w K mg a) : Binds K a.d__law_right ["_law_number", "_law_at", "_law_cast"] [] := T.fn__law_right.binds (ps := ["_law_number", "_law_at", "_law_cast"]) fun _ _ _ _ _ _ us hl => match us, hl with | [_, _, _], _ => rfl
theorem bd_law {w : World} {K : PySem.W.Frag} {mg : Str → Option Value} {a : Ads} (T : Txt w K mg a) : Binds K a.d_law ["_law_script"] [] := T.fn_law.binds (ps := ["_law_script"]) fun _ _ _ _ _ _ us hl => match us, hl with | [_], _ => rfl
theorem bd_ModeD_initD {w : World} {K : PySem.W.Frag} {mg : Str → Option Value} {a : Ads} (T : Txt w K mg a) : Binds K a.d_ModeD_initD ["self", "number"] [] := T.fn_ModeD_initD.binds (ps := ["self", "number"]) fun _ _ _ _ _ _ us hl => match us, hl with | [_, _], _ => rfl
theorem bd_Mode_number {w : World} {K : PySem.W.Frag} {mg : Str → Option Value} {a : Ads} (T : Txt w K mg a) : Binds K a.d_Mode_number ["self"] [] := T.fn_Mode_number.binds (ps := ["self"]) fun _ _ _ _ _ _ us hl => match us, hl with | [_], _ => rfl
theorem bd_Mode_pattern {w : World} {K : PySem.W.Frag} {mg : Str → Option Value} {a : Ads} (T : Txt w K mg a) : Binds K a.d_Mode_pattern ["self", "letter"] [] := T.fn_Mode_pattern.binds (ps := ["self", "letter"]) fun _ _ _ _ _ _ us hl => match us, hl with | [_, _], _ => rfl
theorem bd_Mode_with_pattern {w : World} {K : PySem.W.Frag} {mg : Str → Option Value} {a : Ads} (T : Txt w K mg a) : Binds K a.d_Mode_with_pattern ["self", "letter", "pattern"] [] := T.fn_Mode_with_pattern.binds (ps := ["self", "letter", "pattern"]) fun _ _ _ _ _ _ us hl => match us, hl with | [_, _, _], _ => rfl
theorem bd_ModeD_eqD {w : World} {K : PySem.W.Frag} {mg : Str → Option Value} {a : Ads} (T : Txt w K mg a) : Binds K a.d_ModeD_eqD ["self", "other"] [] := T.fn_ModeD_eqD.binds (ps := ["self", "other"]) fun _ _ _ _ _ _ us hl => match us, hl with | [_, _], _ => rfl
theorem bd_Mode_uniform {w : World} {K : PySem.W.Frag} {mg : Str → Option Value} {a : Ads} (T : Txt w K mg a) : Binds K a.d_Mode_uniform ["pattern"] [] := T.fn_Mode_uniform.binds (ps := ["pattern"]) fun _ _ _ _ _ _ us hl => match us, hl with | [_], _ => rfl
theorem bd_BadModeD_initD {w : World} {K : PySem.W.Frag} {mg : Str → Option Value} {a : Ads} (T : Txt w K mg a) : Binds K a.d_BadModeD_initD ["self", "part"] [] := T.fn_BadModeD_initD.binds (ps := ["self", "part"]) fun _ _ _ _ _ _ us hl => match us, hl with | [_, _], _ => rfl
theorem bd__law_heard {w : World} {K : PySem.W.Frag} {mg : Str → Option Value} {a : Ads} (T : Txt w K mg a) : Binds K a.d__law_heard ["_law_ask"] [] := T.fn__law_heard.binds (ps := ["_law_ask"]) fun _ _ _ _ _ _ us hl => match us, hl with | [_], _ => rfl
end KZ
set_option Elab.async false
set_option linter.all false
set_option maxRecDepth 100000
set_option maxHeartbeats 4000000
namespace KZ
open PySem PySem.Spec PyProof.Rows L2 Evl
local macro_rules | `(tactic| walk_at "ev") => `(tactic| repeat' (first | exact ev_c | exact ev_var rfl | exact rv_I0 | refine' rv_I ?_ | refine' rv_eq ?_ | refine' rv_ne ?_ | refine' ev_op ?_ ?_ ?_ | exact ea_nil | refine' ea_cons ?_ ?_ | refine' et_test ?_ | refine' et_B ?_ | refine' et_not ?_ | refine' ev_notV ?_))
/-! what a value evaluates to: further words -/
/-- a new instance -/
def EvI (te : TE) (σ : L2.St) (H : Hp) (C : Addr) (fs : List (Str × V)) : Prop := ∀ H1, Ex H H1 → ∀ Q : VK, (∀ p dx H2, H1 p = none → Ex H1 H2 → H2 p = some (.ins C dx fs) → Q (.ref p) H2) → te σ H1 Q
/-- a tuple, made or old -/
def EvW (K : PySem.W.Frag) (te : TE) (σ : L2.St) (H : Hp) (xs : List V) : Prop := ∀ H1, Ex H H1 → ∀ Q : VK, (∀ p H2, Ex H1 H2 → SqT K H2 p xs → Q (.ref p) H2) → te σ H1 Q
section
variable {σ : L2.St} {K : PySem.W.Frag} {H H' : Hp} {tx te ta tb : TE} {u t : TT} {v x y z : V} {r : R2}
theorem ev_isi {ta : TA} {c : V} {t u : Value} {b : Bool} (ha : EvA ta σ H [x, c]) (k : ClsV c u) (ty : ∀ H', Ex H H' → TyX K H' x t) (e : PySem.W.kitOne K t u = some b) : Ev (tCB (rIsi K) ta) σ H (.bl b) := fun H1 e1 Q q =>
  ha H1 e1 _ fun H2 e2 => ⟨x, c, t, u, b, rfl, k, ty H2 (e1.trans e2), e, q H2 e2⟩
theorem ev_chain {r r' : R2} {tc : TE} {k1 k2 : Bool} {z : V} (ha : Ev ta σ H x) (hb : Ev tb σ H y) (h1 : RV r x y H (.bl k1)) (hc : k1 = true → Ev tc σ H z ∧ RV r' y z H (.bl k2)) : Ev (tChain r r' ta tb tc) σ H (.bl (k1 && k2)) := fun H1 e1 Q q =>
  ha H1 e1 _ fun H2 e2 => hb H2 (e1.trans e2) _ fun H3 e3 => h1 H3 ((e1.trans e2).trans e3) _ fun H4 e4 => ⟨k1, rfl, by
    cases k1 with
    | true =>
      obtain ⟨h3, h4⟩ := hc rfl
      exact h3 H4 (((e1.trans e2).trans e3).trans e4) _ fun H5 e5 => h4 H5 ((((e1.trans e2).trans e3).trans e4).trans e5) _ fun H6 e6 => q H6 ((((e2.trans e3).trans e4).trans e5).trans e6)
    | false => exact q H4 ((e2.trans e3).trans e4)⟩
theorem ev_cval {ta : TE} {C : Addr} {mc : Value} {f : Str} {u : Value} (h : Ev ta σ H (.ref C)) (r : ClX.CRead K C mc) (k : ClX.CVal K C mc f v u) : Ev (ClX.tCVal K ta f) σ H v := fun H1 e Q q => h H1 e _ fun H2 e2 => ⟨C, mc, v, u, rfl, r, k, q H2 e2⟩
theorem ev_prop {C a : Addr} {dx : Addr} {fs : List (Str × V)} {sp : Sp} {E : XK} (h : Ev ta σ H (.ref a)) (ho : H a = some (.ins C dx fs)) (hs : SpV sp [.ref a] H v) : Ev (tProp C sp [] E ta) σ H v := fun H1 e Q q =>
  h H1 e _ fun H2 e2 => ⟨a, dx, fs, rfl, e2 _ _ (e _ _ ho), hs H2 (e.trans e2) Q (fun H3 e3 => q H3 (e2.trans e3)) E⟩
theorem ev_fld {C a : Addr} {dx : Addr} {fs : List (Str × V)} {f : Str} (h : Ev ta σ H (.ref a)) (ho : H a = some (.ins C dx fs)) (c : Cls K C) (n : NoAttr K C f) (l : fs.lookup f = some v) : Ev (tFld K ta f) σ H v := fun H1 e Q q =>
  h H1 e _ fun H2 e2 => ⟨a, C, dx, fs, v, rfl, e2 _ _ (e _ _ ho), c, n, l, q H2 e2⟩
theorem spv_get {C a : Addr} {dx : Addr} {fs : List (Str × V)} {f : Str} (ho : H a = some (.ins C dx fs)) (l : fs.lookup f = some v) : SpV (getSp C f) [.ref a] H v := fun H1 e Q q E => ⟨a, dx, fs, v, rfl, e _ _ ho, l, q H1 (Ex.refl _)⟩
end
/-! promises -/
def spTrue1 : Sp := fun vs H Q _ => ∃ i : Int, vs = [.int i] ∧ ∀ H', Ex H H' → Q (.bl true) H'
def spTrue2 : Sp := fun vs H Q _ => ∃ i m : Int, vs = [.int i, .int m] ∧ 0 ≤ i ∧ i ≤ m ∧ ∀ H', Ex H H' → Q (.bl true) H'
/-- a Mode of number n stands at p -/
def ModeAt (a : Ads) (H : Hp) (p : Addr) (n : Nat) : Prop := ∃ dx, H p = some (.ins a.f_Mode dx [(("_number" : Str), .int n)])
theorem ModeAt.mono {a : Ads} {H H' : Hp} {p : Addr} {n : Nat} (m : ModeAt a H p n) (e : Ex H H') : ModeAt a H' p n := by
  obtain ⟨dx, h⟩ := m
  exact ⟨dx, e _ _ h⟩
def spMode (a : Ads) : Sp := fun vs H Q _ => ∃ (p dx : Addr) (n : Nat), vs = [.ref p, .int n] ∧ n < 512 ∧ H p = some (.ins a.f_Mode dx []) ∧ ∀ H', (∀ b o, H b = some o → b ≠ p → H' b = some o) → H' p = some (.ins a.f_Mode dx [(("_number" : Str), .int n)]) → Q .non H'
def spNum (a : Ads) : Sp := fun vs H Q _ => ∃ (v : V) (n : Nat), vs = [v] ∧ n < 512 ∧ (v = .int n ∨ ∃ p, v = .ref p ∧ ModeAt a H p n) ∧ ∀ H', Ex H H' → Q (.int n) H'
section
variable {P : Program} {w : World} {K : PySem.W.Frag} {mg : Str → Option Value} {base : Heap} {a : Ads}
theorem ok_is_whole (T : Txt w K mg a) : FnOk P w K mg base CX0 1 a.f_is_whole a.d_is_whole ["value"] spTrue1 := by
  refine T.fn_is_whole.ok sc_is_whole (fun vs H Q E h => ?_) (fun cdv A outer s H vs Q E hr h => ?_)
  · obtain ⟨_, rfl, _⟩ := h
    rfl
  · obtain ⟨i, rfl, k⟩ := h
    refine ⟨_, (pss_one (ps_ret (pe_and (pe_callB call_isi (by rfl) T.b_isinstance PyProof.Rows.boot_isinstance (pa_cons (pv 0) (pa_cons (pe_bltn (v := .ty "int") (by rfl) T.b_int (by decide +kernel) rfl) pa_nil))) (pe_one (pe_not (pe_callB call_isi (by rfl) T.b_isinstance PyProof.Rows.boot_isinstance (pa_cons (pv 0) (pa_cons (pe_bltn (v := .ty "bool") (by rfl) T.b_bool (by decide +kernel) rfl) pa_nil)))))))), ?_⟩
    refine s_ret (v := .bl true) (ev_andV (a := true) (ev_isi (by walk_at "ev") (.ty _) (fun _ _ => .base (.int i)) (kit_ty (by decide +kernel))) fun _ => ev_notV (a := false) (ev_isi (by walk_at "ev") (.ty _) (fun _ _ => .base (.int i)) (kit_ty (by decide +kernel)))) fun H1 e1 => ?_
    exact k H1 e1
theorem ok_is_whole_to (T : Txt w K mg a) : FnOk P w K mg base CX0 3 a.f_is_whole_to a.d_is_whole_to ["value", "most"] spTrue2 := by
  have G_is_whole : FnOk P w K mg base CX0 1 _ _ _ _ := ok_is_whole T
  refine T.fn_is_whole_to.ok sc_is_whole_to (fun vs H Q E h => ?_) (fun cdv A outer s H vs Q E hr h => ?_)
  · obtain ⟨_, _, rfl, _⟩ := h
    rfl
  · obtain ⟨i, m, rfl, h0, h1, k⟩ := h
    have hrc : Room 1 _ := hr.mono (by decide)
    refine ⟨_, (pss_one (ps_ret (pe_and (pe_call G_is_whole hrc rfl T.mg_is_whole T.fn_is_whole.kp (bd_is_whole T) .nil pass0 (pa_cons (pv 0) pa_nil)) (pe_one (pe_chain op_le op_le pe_int (pv 0) (pv 1)))))), ?_⟩
    refine s_ret (v := .bl true) (ev_is (ev_andV (a := true) (ev_call (vs := [.int i]) (by walk_at "ev") fun H1 e Q q E => ⟨i, rfl, q⟩) fun _ => ev_chain (by walk_at "ev") (by walk_at "ev") (by walk_at "ev") fun _ => ⟨by walk_at "ev", by walk_at "ev"⟩) ?_) fun H1 e1 => ?_
    · rw [decide_eq_true h0, decide_eq_true h1] <;> rfl
    exact k H1 e1
theorem ok_Mode_init (T : Txt w K mg a) : FnOk P w K mg base CX0 5 a.f_ModeD_initD a.d_ModeD_initD ["self", "number"] (spMode a) := by
  have G_is_whole_to : FnOk P w K mg base CX0 3 _ _ _ _ := ok_is_whole_to T
  refine T.fn_ModeD_initD.ok sc_ModeD_initD (fun vs H Q E h => ?_) (fun cdv A outer s H vs Q E hr h => ?_)
  · obtain ⟨_, _, _, rfl, _⟩ := h
    rfl
  · obtain ⟨p, dx, n, rfl, hn, hp, k⟩ := h
    have hrc : Room 3 _ := hr.mono (by decide)
    obtain ⟨tm, hm⟩ := T.k_Mode_MOST
    refine ⟨_, (pss_cons (ps_if (pt_not (pt_val (pe_call G_is_whole_to hrc rfl T.mg_is_whole_to T.fn_is_whole_to.kp (bd_is_whole_to T) .nil pass0 (pa_cons (pv 1) (pa_cons (ClX.pe_cval (pe_glob (v := .ref a.f_Mode) rfl T.mg_Mode rfl)) pa_nil))))) (pss_one ps_never) pss_nil)
    (pss_one (ps_fld (pv 0) (pv 1) rfl))), ?_⟩
    refine q_when (b := false) (et_not (a := true) (et_B (ev_call (vs := [.int n, .int 511]) (ea_cons (ev_var rfl) (ea_cons (ev_cval ev_c T.r_Mode hm) ea_nil)) fun H1 e Q q E => ⟨n, 511, rfl, by omega, by omega, q⟩))) (fun z => nomatch z) fun _ H1 e1 => ?_
    refine ⟨_, rfl, _, rfl, p, a.f_Mode, dx, [], rfl, e1 _ _ hp, T.c_Mode, T.n_number_Mode, (by show 0 < 1000; decide), ?_⟩
    exact k _ (fun b o hb ne => by rw [upd_ne ne]; exact e1 _ _ hb) upd_same
theorem ok_Mode_number (T : Txt w K mg a) : FnOk P w K mg base CX0 1 a.f_Mode_number a.d_Mode_number ["self"] (getSp a.f_Mode "_number") := by
  obtain ⟨oc, od, kV, doc, pm, an, cdv, ct, osl, e, lk, hcd⟩ := T.fn_Mode_number.ex
  rw [e]
  exact fn_getter (by rw [← e]; exact lk) hcd sc_Mode_number rfl rfl T.c_Mode T.n_number_Mode
theorem tyx_mode (T : Txt w K mg a) {H : Hp} {p : Addr} {n : Nat} (m : ModeAt a H p n) : TyX K H (.ref p) (.ref a.f_Mode) := by
  obtain ⟨dx, h⟩ := m
  exact .base (.ins h T.c_Mode T.ia_Mode T.in_ T.it_ T.im_Mode)
theorem ok_number_of (T : Txt w K mg a) : FnOk P w K mg base CX0 5 a.f_number_of a.d_number_of ["mode"] (spNum a) := by
  have G_is_whole_to : FnOk P w K mg base CX0 3 _ _ _ _ := ok_is_whole_to T
  have G_Mode_number : FnOk P w K mg base CX0 3 _ _ _ _ := (ok_Mode_number T).mono (by decide)
  refine T.fn_number_of.ok sc_number_of (fun vs H Q E h => ?_) (fun cdv A outer s H vs Q E hr h => ?_)
  · obtain ⟨_, _, rfl, _⟩ := h
    rfl
  · obtain ⟨v, n, rfl, hn, hv, k⟩ := h
    have hrm : Room 4 _ := hr
    have hrc : Room 3 _ := hr.mono (by decide)
    obtain ⟨tm, hm⟩ := T.k_Mode_MOST
    refine ⟨_, (pss_cons (ps_if (pt_val (pe_callB call_isi (by rfl) T.b_isinstance PyProof.Rows.boot_isinstance (pa_cons (pv 0) (pa_cons (pe_glob (v := .ref a.f_Mode) rfl T.mg_Mode rfl) pa_nil)))) (pss_one (ps_ret (pe_prop (pv 0) T.c_Mode T.p_Mode_number (G_Mode_number) hrm (bd_Mode_number T) .nil pass0 rfl))) pss_nil)
    (pss_cons (ps_if (pt_not (pt_val (pe_call G_is_whole_to hrc rfl T.mg_is_whole_to T.fn_is_whole_to.kp (bd_is_whole_to T) .nil pass0 (pa_cons (pv 0) (pa_cons (ClX.pe_cval (pe_glob (v := .ref a.f_Mode) rfl T.mg_Mode rfl)) pa_nil))))) (pss_one ps_never) pss_nil)
    (pss_one (ps_ret (pv 0))))), ?_⟩
    rcases hv with rfl | ⟨p, rfl, m⟩
    · refine q_when (b := false) (et_B (ev_isi (by walk_at "ev") (.own _) (fun _ _ => .base (.int n)) T.ii_Mode)) (fun z => nomatch z) fun _ H1 e1 => ?_
      refine q_when (b := false) (et_not (a := true) (et_B (ev_call (vs := [.int n, .int 511]) (ea_cons (ev_var rfl) (ea_cons (ev_cval ev_c T.r_Mode hm) ea_nil)) fun H1 e Q q E => ⟨n, 511, rfl, by omega, by omega, q⟩))) (fun z => nomatch z) fun _ H2 e2 => ?_
      exact s_ret (v := .int n) (ev_var rfl) fun H3 e3 => k H3 ((e1.trans e2).trans e3)
    · obtain ⟨dx, hp⟩ := id m
      refine q_when (b := true) (et_B (ev_isi (by walk_at "ev") (.own _) (fun H' e' => tyx_mode T (m.mono e')) T.is_Mode)) (fun _ H1 e1 => ?_) fun z => nomatch z
      refine s_ret (v := .int n) (ev_prop (ev_var rfl) (e1 _ _ hp) (spv_get (e1 _ _ hp) (by simp [List.lookup]))) fun H2 e2 => ?_
      exact k H2 (e1.trans e2)
end
end KZ
set_option Elab.async false
set_option linter.all false
set_option maxRecDepth 100000
set_option maxHeartbeats 4000000
namespace KZ
open PySem PySem.Spec PyProof.Rows L2 Evl
local macro_rules | `(tactic| walk_at "ev") => `(tactic| repeat' (first | exact ev_c | exact ev_var rfl | exact rv_I0 | refine' rv_I ?_ | refine' rv_eq ?_ | refine' rv_ne ?_ | refine' ev_op ?_ ?_ ?_ | exact ea_nil | refine' ea_cons ?_ ?_ | refine' et_test ?_ | refine' et_B ?_ | refine' et_not ?_ | refine' ev_notV ?_))

section
variable {σ : L2.St} {K : PySem.W.Frag} {H H' : Hp} {tx te ta tb : TE} {u t : TT} {v x y z : V} {r : R2}
/-- a comprehension over the signs of a text -/
theorem el_lcS {s : Str} {tl' : TE} {j : Nat} {vs : List Nat} (f : Nat → Bool) (v : Nat → V) (h : Ev tl' σ H (.str s)) (hz : s.cps.size ≤ 40000) (hw : ∀ x, wipe ((wipe σ vs).set j (some x)) vs = wipe σ vs)
    (ht : ∀ (i : Nat) (c : Nat) H1, Ex H H1 → s.cps[i]? = some c → EvT t ((wipe σ vs).set j (some (.str ⟨#[c]⟩))) H1 (f i)) (he : ∀ (i : Nat) (c : Nat) H1, Ex H H1 → s.cps[i]? = some c → f i = true → Ev te ((wipe σ vs).set j (some (.str ⟨#[c]⟩))) H1 (v i)) :
    EvL (tLc (iStr tl') (gName j) t te vs) σ H (given s.cps.size f v) := fun H0 e Q q => h H0 e _ fun H1 e1 => ⟨s, rfl, fun Dl hD =>
  ⟨fun i m H' => m = s.cps.size - i ∧ i ≤ s.cps.size ∧ Cw H1 f v Dl i H', ⟨s.cps.size, by simp, Nat.zero_le _, hD, Ex.new hD, upd_same⟩, by
    rintro i m H' ⟨rfl, hi, p⟩
    by_cases hlt : i < s.cps.size
    · refine .inr ⟨hlt, Cw H1 f v Dl (i + 1), fun H2 p' => ⟨s.cps.size - (i + 1), by omega, rfl, hlt, p'⟩, ?_⟩
      rintro x H2 ⟨rfl, c, hc, rfl⟩
      exact ⟨hw _, cw_turn p (by omega) (ht i c H1 (e.trans e1) hc) (fun hf => he i c H1 (e.trans e1) hc hf)⟩
    · have e2 : i = s.cps.size := by omega
      subst e2
      exact .inl ⟨Nat.le_refl _, q Dl H' (fresh_back e1 p.1) (e1.trans p.2.1) p.2.2⟩⟩⟩
/-- over a tuple -/
theorem el_lcT {a : Addr} {xs : List V} {tl : TE} {g : TG} {vs : List Nat} {σ' : V → L2.St} (f : Nat → Bool) (v : Nat → V) (h : Ev tl σ H (.ref a)) (hx : SqT K H a xs) (hz : xs.length ≤ 40000)
    (hg : ∀ (i : Nat) (x : V) H1 (Q : L2.St → Hp → Prop), Ex H H1 → xs[i]? = some x → Q (σ' x) H1 → g x (wipe σ vs) H1 Q) (hw : ∀ x, wipe (σ' x) vs = wipe σ vs)
    (ht : ∀ (i : Nat) (x : V) H1, Ex H H1 → xs[i]? = some x → EvT t (σ' x) H1 (f i)) (he : ∀ (i : Nat) (x : V) H1, Ex H H1 → xs[i]? = some x → f i = true → Ev te (σ' x) H1 (v i)) :
    EvL (tLc (iTup K tl) g t te vs) σ H (given xs.length f v) := fun H0 e Q q => h H0 e _ fun H1 e1 => ⟨a, rfl, ⟨xs, ex_t (e.trans e1) hx⟩, fun Dl hD =>
  lc_tup (xs := xs) (Cw H1 f v Dl) ⟨hD, Ex.new hD, upd_same⟩ (fun i H' _ p => ex_t ((e.trans e1).trans p.2.1) hx)
    (fun i x H' hi p => hg i x H' _ ((e.trans e1).trans p.2.1) hi ⟨hw x, cw_turn p (by have := (List.getElem?_eq_some_iff.mp hi).1; omega) (ht i x H1 (e.trans e1) hi) (fun hf => he i x H1 (e.trans e1) hi hf)⟩)
    (fun He cw => q Dl He (fresh_back e1 cw.1) (e1.trans cw.2.1) cw.2.2)⟩
theorem et_yes : EvT tYes σ H true := fun H1 _ _ q => q H1 (Ex.refl H1)
theorem ev_join {s : Str} {ys : List Str} (ha : Ev ta σ H (.str s)) (hb : EvL te σ H (ys.map V.str)) (hz : (ys.map (·.length)).sum + ys.length * s.length ≤ 16777216) :
    Ev (tM1 (fun x xs H Q => ∃ a p, ∃ ys : List Str, x = .str a ∧ xs = [.ref p] ∧ (SqL K H p (ys.map V.str) ∨ SqT K H p (ys.map V.str)) ∧ (ys.map (·.length)).sum + ys.length * a.length ≤ 16777216 ∧ Q (.str (Txt.join a ys)) H) ta te) σ H (.str (Txt.join s ys)) := fun H1 e Q q =>
  ha H1 e _ fun H2 e2 => ⟨⟨s, rfl⟩, hb H2 (e.trans e2) _ fun p H3 _ e3 h3 => ⟨s, p, ys, rfl, rfl, .inl (sq_of h3), hz, q H3 (e2.trans e3)⟩⟩
theorem eu_tuple {xs : List V} (h : EvL te σ H xs) : EvU (tCB (fun xs H Q => ∃ p ys, xs = [.ref p] ∧ ((SqL K H p ys ∧ ∀ l, H l = none → Q (.ref l) (upd H l (.tup ys))) ∨ (SqT K H p ys ∧ Q (.ref p) H))) (tCons te tNil)) σ H xs := fun H1 e Q q =>
  h H1 e _ fun p H2 _ e2 h2 => ⟨p, xs, rfl, .inl ⟨sq_of h2, fun l hl => q l _ (fresh_back e2 hl) (e2.trans (Ex.new hl)) upd_same⟩⟩
theorem ev_sum {ns : List Int} (h : EvL te σ H (ns.map V.int)) : Ev (tCB (rSum K) (tCons te tNil)) σ H (.int ns.sum) := fun H1 e Q q =>
  h H1 e _ fun p H2 _ e2 h2 => ⟨p, ns, rfl, sq_of h2, q H2 e2⟩
theorem el_is {xs ys : List V} (h : EvL te σ H xs) (e : xs = ys) : EvL te σ H ys := e ▸ h
theorem eu_is {xs ys : List V} (h : EvU te σ H xs) (e : xs = ys) : EvU te σ H ys := e ▸ h
theorem rv_inS {c : Nat} {w : Str} : RV (fun x y H Q => ∃ (c : Nat) (z : Str), x = .str ⟨#[c]⟩ ∧ y = .str z ∧ Q (.bl (decide (c ∈ z.cps.toList))) H) (.str ⟨#[c]⟩) (.str w) H (.bl (decide (c ∈ w.cps.toList))) := fun H1 _ _ q => ⟨c, w, rfl, rfl, q H1 (Ex.refl H1)⟩
end
end KZ
set_option Elab.async false
set_option linter.all false
set_option maxRecDepth 100000
set_option maxHeartbeats 4000000
namespace KZ
open PySem PySem.Spec PyProof.Rows L2 Evl
local macro_rules | `(tactic| walk_at "ev") => `(tactic| repeat' (first | exact ev_c | exact ev_var rfl | exact rv_I0 | refine' rv_I ?_ | refine' rv_eq ?_ | refine' rv_ne ?_ | refine' ev_op ?_ ?_ ?_ | exact ea_nil | refine' ea_cons ?_ ?_ | refine' et_test ?_ | refine' et_B ?_ | refine' et_not ?_ | refine' ev_notV ?_))

theorem put_some {kvs : List (Key × V)} {k : Key} {v y : V} (h : valV kvs k = some y) : putK kvs k v = kvs.map (fun kv => if kv.1 = k then (kv.1, v) else kv) := by
  unfold putK; rw [valV_any, h]; exact if_pos rfl
/-- three different keys, merged -/
theorem merge3 {k1 k2 k3 : Key} {x y z : V} (h1 : k1 ≠ k2) (h2 : k1 ≠ k3) (h3 : k2 ≠ k3) : mergeK [] [(k1, x), (k2, y), (k3, z)] = [(k1, x), (k2, y), (k3, z)] := by
  have e1 : putK [] k1 x = [(k1, x)] := putK_new x rfl
  have e2 : putK [(k1, x)] k2 y = [(k1, x), (k2, y)] := putK_new y ((valV_neg h1).trans rfl)
  have e3 : putK [(k1, x), (k2, y)] k3 z = [(k1, x), (k2, y), (k3, z)] := putK_new z ((valV_neg h2).trans ((valV_neg h3).trans rfl))
  show putK (putK (putK [] k1 x) k2 y) k3 z = _
  rw [e1, e2, e3]
/-- a new dict -/
def EvD (te : TE) (σ : L2.St) (H : Hp) (kvs : List (Key × V)) : Prop := ∀ H1, Ex H H1 → ∀ Q : VK, (∀ p H2, H1 p = none → Ex H1 H2 → H2 p = some (.dK kvs) → Q (.ref p) H2) → te σ H1 Q
section
variable {K : PySem.W.Frag} {σ : L2.St} {H H' : Hp} {ta tb te tx tv : TE} {t u : TT} {x y z v : V} {r : R2} {D : Ends} {tz : TS}
theorem ed_disp3 {s1 s2 s3 : Str} {t1 t2 t3 v1 v2 v3 : TE} (k1 : Ev t1 σ H (.str s1)) (h1 : Ev v1 σ H x) (k2 : Ev t2 σ H (.str s2)) (h2 : Ev v2 σ H y) (k3 : Ev t3 σ H (.str s3)) (h3 : Ev v3 σ H z) (n1 : (Sum.inr s1 : Key) ≠ .inr s2) (n2 : (Sum.inr s1 : Key) ≠ .inr s3) (n3 : (Sum.inr s2 : Key) ≠ .inr s3) :
    EvD (tDisp [(t1, v1), (t2, v2), (t3, v3)]) σ H [(.inr s1, x), (.inr s2, y), (.inr s3, z)] := fun H1 e Q q p hp => by
  have e0 : Ex H (upd H1 p (.dK [])) := e.trans (Ex.new hp)
  refine k1 _ e0 _ fun H2 e2 => h1 H2 (e0.trans e2) _ fun H3 e3 => k2 H3 ((e0.trans e2).trans e3) _ fun H4 e4 => h2 H4 (((e0.trans e2).trans e3).trans e4) _ fun H5 e5 => k3 H5 ((((e0.trans e2).trans e3).trans e4).trans e5) _ fun H6 e6 => h3 H6 (((((e0.trans e2).trans e3).trans e4).trans e5).trans e6) _ fun H7 e7 => ?_
  have e27 : Ex (upd H1 p (.dK [])) H7 := ((((e2.trans e3).trans e4).trans e5).trans e6).trans e7
  refine ⟨e27 _ _ upd_same, [(.inr s1, x), (.inr s2, y), (.inr s3, z)], rfl, by show 3 ≤ 15; decide, ?_⟩
  rw [merge3 n1 n2 n3]
  exact q p _ hp (fun b o hb => by rw [upd_ne (ne_of_none hb hp)]; exact e27 _ _ (Ex.new hp _ _ hb)) upd_same
theorem q_asgD {i : Nat} {kvs : List (Key × V)} (h : EvD te σ H kvs) (k : ∀ p H1, H p = none → Ex H H1 → H1 p = some (.dK kvs) → tz D (σ.set i (some (.ref p))) H1) : tSeq (tAsg te (gName i)) tz D σ H := h H (Ex.refl H) _ fun p H1 hp e h1 => k p H1 hp e h1
theorem ev_dget {d : Addr} {kvs : List (Key × V)} {s : Str} (h : Ev ta σ H (.ref d)) (hk : Ev tb σ H (.str s)) (hd : H d = some (.dK kvs)) (e : valV kvs (.inr s) = some v) : Ev (tDGet ta tb) σ H v := fun H1 e1 Q q =>
  h H1 e1 _ fun H2 e2 => hk H2 (e1.trans e2) _ fun H3 e3 => ⟨d, v, rfl, by rw [← e]; exact DGet.k (k := .inr s) (e3 _ _ (e2 _ _ (e1 _ _ hd))), q H3 (e2.trans e3)⟩
theorem ev_dget2 {d : Addr} {kvs : List (Key × V)} {s : Str} (h : Ev ta σ H (.ref d)) (hk : Ev tb σ H (.str s)) (hx : Ev tx σ H x) (hd : H d = some (.dK kvs)) : Ev (tDGet2 ta tb tx) σ H ((valV kvs (.inr s)).getD x) := fun H1 e1 Q q =>
  h H1 e1 _ fun H2 e2 => ⟨d, rfl, .inl ⟨kvs, .inl (e2 _ _ (e1 _ _ hd))⟩, hk H2 (e1.trans e2) _ fun H3 e3 => hx H3 ((e1.trans e2).trans e3) _ fun H4 e4 => ⟨_, DGet.k (k := .inr s) (e4 _ _ (e3 _ _ (e2 _ _ (e1 _ _ hd)))), q H4 ((e2.trans e3).trans e4)⟩⟩
theorem et_dnotin {d : Addr} {kvs : List (Key × V)} {s : Str} (hk : Ev ta σ H (.str s)) (h : Ev tb σ H (.ref d)) (hd : H d = some (.dK kvs)) : EvT (tB (tDNotIn ta tb)) σ H (!(valV kvs (.inr s)).isSome) := fun H1 e1 Q q =>
  hk H1 e1 _ fun H2 e2 => h H2 (e1.trans e2) _ fun H3 e3 => ⟨d, _, rfl, DGet.k (k := .inr s) (e3 _ _ (e2 _ _ (e1 _ _ hd))), _, rfl, q H3 (e2.trans e3)⟩
theorem ed_copy {d : Addr} {kvs : List (Key × V)} (h : Ev ta σ H (.ref d)) (hd : H d = some (.dK kvs)) : EvD (tCB (fun xs H Q => ∃ (a : Addr) (kvs : List (Key × V)), xs = [V.ref a] ∧ Rd H a (.dK kvs) ∧ ∀ p, H p = none → Q (.ref p) (upd H p (.dK kvs))) (tCons ta tNil)) σ H kvs := fun H1 e1 Q q =>
  h H1 e1 _ fun H2 e2 => ⟨d, kvs, rfl, .inl (e2 _ _ (e1 _ _ hd)), fun p hp => q p _ (fresh_back e2 hp) (e2.trans (Ex.new hp)) upd_same⟩
theorem q_dput {d : Addr} {kvs : List (Key × V)} {s : Str} (hv : Ev tv σ H v) (h : Ev ta σ H (.ref d)) (hk : Ev tb σ H (.str s)) (hd : H d = some (.dK kvs)) (hl : kvs.length < 1000) (k : ∀ H1, Ex H H1 → D.nx σ (upd H1 d (.dK (putK kvs (.inr s) v)))) : sDPut ta tb tv D σ H :=
  hv H (Ex.refl H) _ fun H1 e1 => h H1 e1 _ fun H2 e2 => hk H2 (e1.trans e2) _ fun H3 e3 => ⟨d, _, rfl, DPut.k (k := .inr s) (e3 _ _ (e2 _ _ (e1 _ _ hd))) (small1000 (Nat.le_of_lt hl)), k H3 ((e1.trans e2).trans e3)⟩
/-- over the signs of a text -/
theorem q_forS {s : Str} {j : Nat} {ts : TS} (h : Ev te σ H (.str s)) (Pv : Nat → L2.St → Hp → Prop) (h0 : ∀ H1, Ex H H1 → Pv 0 σ H1)
    (hs : ∀ (i c : Nat) σ' H', s.cps.toList[i]? = some c → Pv i σ' H' → ts { D with nx := Pv (i + 1), ct := Pv (i + 1), bk := tz D } (σ'.set j (some (.str ⟨#[c]⟩))) H') (hd : ∀ σ' H', Pv s.cps.size σ' H' → tz D σ' H') : tSeq (tFor (iStr te) (gName j) ts) tz D σ H :=
  h H (Ex.refl H) _ fun H1 e1 => ⟨s, rfl, fun i m σ' H' => m = s.cps.size - i ∧ i ≤ s.cps.size ∧ Pv i σ' H', ⟨s.cps.size, by simp, Nat.zero_le _, h0 H1 e1⟩, by
    rintro i m σ' H' ⟨rfl, hi, p⟩
    by_cases hlt : i < s.cps.size
    · refine .inr ⟨hlt, Pv (i + 1), fun σ2 H2 p' => ⟨s.cps.size - (i + 1), by omega, rfl, hlt, p'⟩, ?_⟩
      rintro x H2 ⟨rfl, c, hc, rfl⟩
      rw [← Array.getElem?_toList] at hc
      exact hs i c σ' _ hc p
    · have e : i = s.cps.size := by omega
      subst e
      exact .inl ⟨Nat.le_refl _, hd σ' H' p⟩⟩
theorem q_asgTV {p : Addr} {xs : List V} {n : Nat} {tgs : TGs} (h : Ev te σ H (.ref p)) (hx : SqT K H p xs) (hl : xs.length = n) (k : ∀ H1, Ex H H1 → tgs xs σ H1 (tz D)) : tSeq (tAsg te (gTup K n tgs)) tz D σ H :=
  h H (Ex.refl _) _ fun H1 e => ⟨p, xs, rfl, ex_t e hx, hl, k H1 e⟩
end
end KZ
set_option Elab.async false
set_option linter.all false
set_option maxRecDepth 100000
set_option maxHeartbeats 4000000
namespace KZ
open PySem PySem.Spec PyProof.Rows L2 Evl
local macro_rules | `(tactic| walk_at "ev") => `(tactic| repeat' (first | exact ev_c | exact ev_var rfl | exact rv_I0 | refine' rv_I ?_ | refine' rv_eq ?_ | refine' rv_ne ?_ | refine' ev_op ?_ ?_ ?_ | exact ea_nil | refine' ea_cons ?_ ?_ | refine' et_test ?_ | refine' et_B ?_ | refine' et_not ?_ | refine' ev_notV ?_))

open PySem
/-! ### what draws: a dict of the cells, where one stands, what is left of a great one, the state -/
def bagK (l : Addr) (at_ : Nat) (rest state : Int) : List (Key × V) := [(.inr "cells", .ref l), (.inr "at", .int at_), (.inr "rest", .int rest), (.inr "state", .int state)]
def BagAt (H : Hp) (p : Addr) : Prop := ∃ (l : Addr) (ns : List Int) (at_ : Nat) (rest state : Int), H p = some (.dK (bagK l at_ rest state)) ∧ H l = some (.lst (ns.map V.int)) ∧ l ≠ p ∧ at_ ≤ ns.length ∧ ns.length ≤ 63 ∧ 0 ≤ rest ∧ 0 ≤ state ∧ state < 2147483647
theorem BagAt.keep {H H' : Hp} {p : Addr} (h : BagAt H p) (e : Ex H H') : BagAt H' p := by
  obtain ⟨l, ns, at_, rest, state, h1, h2, h3⟩ := h
  exact ⟨l, ns, at_, rest, state, e _ _ h1, e _ _ h2, h3⟩
/-- all but p stays -/
def ExB (p : Addr) (H H' : Hp) : Prop := ∀ b o, H b = some o → b ≠ p → H' b = some o
theorem ExB.of {p : Addr} {H H' : Hp} (e : Ex H H') : ExB p H H' := fun b o h _ => e b o h
theorem ExB.trans {p : Addr} {H H1 H2 : Hp} (a : ExB p H H1) (b : ExB p H1 H2) : ExB p H H2 := fun c o h n => b c o (a c o h n) n
def spBag (K : PySem.W.Frag) : Sp := fun vs H Q _ => ∃ (s : Addr) (ns : List Int), vs = [.ref s] ∧ SqL K H s (ns.map V.int) ∧ ns.length ≤ 63 ∧ ∀ p H', H p = none → Ex H H' → BagAt H' p → Q (.ref p) H'
def spDraw : Sp := fun vs H Q _ => ∃ (p : Addr) (m : Nat), vs = [.ref p, .int m] ∧ BagAt H p ∧ 0 < m ∧ m ≤ 1000 ∧ ∀ (d : Nat) H', d < m → ExB p H H' → BagAt H' p → Q (.int d) H'
theorem bag_ne : (Sum.inr "cells" : Key) ≠ .inr "at" ∧ (Sum.inr "cells" : Key) ≠ .inr "rest" ∧ (Sum.inr "cells" : Key) ≠ .inr "state" ∧ (Sum.inr "at" : Key) ≠ .inr "rest" ∧ (Sum.inr "at" : Key) ≠ .inr "state" ∧ (Sum.inr "rest" : Key) ≠ .inr "state" := by decide +kernel
section
variable {l : Addr} {at_ : Nat} {rest state : Int}
theorem bag_cells : valV (bagK l at_ rest state) (.inr "cells") = some (.ref l) := valV_pos rfl
theorem bag_at : valV (bagK l at_ rest state) (.inr "at") = some (.int at_) := (valV_neg bag_ne.1).trans (valV_pos rfl)
theorem bag_rest : valV (bagK l at_ rest state) (.inr "rest") = some (.int rest) := (valV_neg bag_ne.2.1).trans ((valV_neg bag_ne.2.2.2.1).trans (valV_pos rfl))
theorem bag_state : valV (bagK l at_ rest state) (.inr "state") = some (.int state) := (valV_neg bag_ne.2.2.1).trans ((valV_neg bag_ne.2.2.2.2.1).trans ((valV_neg bag_ne.2.2.2.2.2).trans (valV_pos rfl)))
theorem put_at {n : Nat} : putK (bagK l at_ rest state) (.inr "at") (.int n) = bagK l n rest state := by
  rw [put_some bag_at]
  simp only [bagK, List.map_cons, List.map_nil, if_pos, if_neg bag_ne.1, if_neg bag_ne.2.2.2.1.symm, if_neg bag_ne.2.2.2.2.1.symm]
theorem put_rest {r : Int} : putK (bagK l at_ rest state) (.inr "rest") (.int r) = bagK l at_ r state := by
  rw [put_some bag_rest]
  simp only [bagK, List.map_cons, List.map_nil, if_pos, if_neg bag_ne.2.1, if_neg bag_ne.2.2.2.1, if_neg bag_ne.2.2.2.2.2.symm]
theorem put_state {r : Int} : putK (bagK l at_ rest state) (.inr "state") (.int r) = bagK l at_ rest r := by
  rw [put_some bag_state]
  simp only [bagK, List.map_cons, List.map_nil, if_pos, if_neg bag_ne.2.2.1, if_neg bag_ne.2.2.2.2.1, if_neg bag_ne.2.2.2.2.2]
end
theorem cut_ints (ns : List Int) (lo hi : Option Int) : ∃ ms : List Int, cutV (ns.map V.int) lo hi = ms.map V.int ∧ ms.length ≤ ns.length := by
  refine ⟨(ns.drop (HT.sIx ns.length 0 lo)).take (HT.sIx ns.length ns.length hi - HT.sIx ns.length 0 lo), ?_, ?_⟩
  · unfold cutV
    rw [List.length_map, List.map_take, List.map_drop]
  · rw [List.length_take, List.length_drop]
    omega
section
variable {K : PySem.W.Frag} {σ : L2.St} {H H' : Hp} {ta tb te tx tv : TE} {D : Ends} {tz : TS} {v : V}
theorem el_listN {xs : List V} (h : EvL te σ H xs) : EvL (tCB (fun xs H Q => ∃ p ys, xs = [V.ref p] ∧ (SqL K H p ys ∨ SqT K H p ys) ∧ ∀ l, H l = none → Q (.ref l) (upd H l (.lst ys))) (tCons te tNil)) σ H xs := fun H1 e Q q =>
  h H1 e _ fun p H2 _ e2 h2 => ⟨p, xs, rfl, .inl (sq_of h2), fun l hl => q l _ (fresh_back e2 hl) (e2.trans (Ex.new hl)) upd_same⟩
theorem ev_int {i : Int} (h : Ev te σ H (.int i)) : Ev (tCB (fun xs H Q => (∃ i, xs = [V.int i] ∧ Q (.int i) H) ∨ ∃ k, xs = [V.bl k] ∧ Q (.int (if k then 1 else 0)) H) (tCons te tNil)) σ H (.int i) := fun H1 e Q q => h H1 e _ fun H2 e2 => .inl ⟨i, rfl, q H2 e2⟩
theorem ev_lenS {p : Addr} {xs : List V} (ha : Ev ta σ H (.ref p)) (h : SqL K H p xs) : Ev (tCB (fun xs H Q => ∃ p ys, xs = [V.ref p] ∧ (SqL K H p ys ∨ SqT K H p ys) ∧ Q (.int (ys.length : Nat)) H) (tCons ta tNil)) σ H (.int (xs.length : Nat)) := ev_len ha h
theorem ev_abs {i : Int} (h : Ev te σ H (.int i)) : Ev (tCB (fun xs H Q => ∃ i, xs = [V.int i] ∧ Q (.int (if i < 0 then -i else i)) H) (tCons te tNil)) σ H (.int (if i < 0 then -i else i)) := fun H1 e Q q => h H1 e _ fun H2 e2 => ⟨i, rfl, q H2 e2⟩
/-- a new dict of four, the first entry a new list -/
theorem s_retBag {t1 t2 t3 t4 v1 v2 v3 v4 : TE} {s1 s2 s3 s4 : Str} {xs : List V} {y z u : V} (k1 : Ev t1 σ H (.str s1)) (h1 : EvL v1 σ H xs) (k2 : Ev t2 σ H (.str s2)) (h2 : Ev v2 σ H y) (k3 : Ev t3 σ H (.str s3)) (h3 : Ev v3 σ H z) (k4 : Ev t4 σ H (.str s4)) (h4 : Ev v4 σ H u)
    (ne : (Sum.inr s1 : Key) ≠ .inr s2 ∧ (Sum.inr s1 : Key) ≠ .inr s3 ∧ (Sum.inr s1 : Key) ≠ .inr s4 ∧ (Sum.inr s2 : Key) ≠ .inr s3 ∧ (Sum.inr s2 : Key) ≠ .inr s4 ∧ (Sum.inr s3 : Key) ≠ .inr s4)
    (k : ∀ l p H1, H p = none → Ex H H1 → l ≠ p → H1 l = some (.lst xs) → H1 p = some (.dK [(.inr s1, .ref l), (.inr s2, y), (.inr s3, z), (.inr s4, u)]) → D.rt (.ref p) H1) : tRet (tDisp [(t1, v1), (t2, v2), (t3, v3), (t4, v4)]) D σ H := fun p hp => by
  have e0 : Ex H (upd H p (.dK [])) := Ex.new hp
  refine k1 _ e0 _ fun H2 e2 => h1 H2 (e0.trans e2) _ fun l H3 hl e3 x3 => k2 H3 ((e0.trans e2).trans e3) _ fun H4 e4 => h2 H4 (((e0.trans e2).trans e3).trans e4) _ fun H5 e5 => k3 H5 ((((e0.trans e2).trans e3).trans e4).trans e5) _ fun H6 e6 => h3 H6 (((((e0.trans e2).trans e3).trans e4).trans e5).trans e6) _ fun H7 e7 => k4 H7 ((((((e0.trans e2).trans e3).trans e4).trans e5).trans e6).trans e7) _ fun H8 e8 => h4 H8 (((((((e0.trans e2).trans e3).trans e4).trans e5).trans e6).trans e7).trans e8) _ fun H9 e9 => ?_
  have e29 : Ex (upd H p (.dK [])) H9 := ((((((e2.trans e3).trans e4).trans e5).trans e6).trans e7).trans e8).trans e9
  have lp : l ≠ p := fun q => by rw [q, e2 _ _ upd_same] at hl; cases hl
  refine ⟨e29 _ _ upd_same, [(.inr s1, .ref l), (.inr s2, y), (.inr s3, z), (.inr s4, u)], rfl, by show 4 ≤ 15; decide, ?_⟩
  have m4 : mergeK [] [(.inr s1, V.ref l), (.inr s2, y), (.inr s3, z), (.inr s4, u)] = [(.inr s1, .ref l), (.inr s2, y), (.inr s3, z), (.inr s4, u)] := by
    show putK (mergeK [] [(.inr s1, V.ref l), (.inr s2, y), (.inr s3, z)]) (.inr s4) u = _
    rw [merge3 ne.1 ne.2.1 ne.2.2.2.1]
    exact putK_new u ((valV_neg ne.2.2.1).trans ((valV_neg ne.2.2.2.2.1).trans ((valV_neg ne.2.2.2.2.2).trans rfl)))
  rw [m4]
  exact k l p _ hp (fun b o hb => by rw [upd_ne (ne_of_none hb hp)]; exact e29 _ _ (Ex.new hp _ _ hb)) lp (by rw [upd_ne lp]; exact ((((((e4.trans e5).trans e6).trans e7).trans e8).trans e9)) _ _ x3) upd_same
end
section
variable {P : Program} {w : World} {K : PySem.W.Frag} {mg : Str → Option Value} {base : Heap} {a : Ads}
theorem ok_bag (T : Txt w K mg a) : FnOk P w K mg base CX0 1 a.f__law_bag a.d__law_bag ["_law_script"] (spBag K) := by
  refine T.fn__law_bag.ok sc__law_bag (fun vs H Q E h => ?_) (fun cdv A outer s H vs Q E hr h => ?_)
  · obtain ⟨_, _, rfl, _⟩ := h
    rfl
  · obtain ⟨sc, ns, rfl, hs, hl, k⟩ := h
    refine ⟨_, (pss_cons (ps_set (i := 1) sc__law_bag.nd rfl (Or.inl rfl) pe_int)
    (pss_cons (ps_for PassesOwn.never rfl (pi_list (pe_slice sl_list (pv 0) po_none (po_some pe_int))) (pg_name (i := 2) sc__law_bag.nd rfl (Or.inl rfl)) (pss_one (ps_set (i := 1) sc__law_bag.nd rfl (Or.inl rfl) (pe_op op_mod (pe_callTy call_int1 (by rfl) T.b_int (by decide +kernel) (pa_cons (pe_op op_add (pe_op op_add (pe_op op_mul (pv 1) pe_int) (pe_op op_mod (pe_callB call_abs (by rfl) T.b_abs (by decide +kernel) (pa_cons (pv 2) pa_nil)) pe_int)) pe_int) pa_nil)) pe_int))))
    (pss_one (ps_ret (pe_disp (pps_cons pe_str (pe_callTy call_list_of (by rfl) T.b_list (by decide +kernel) (pa_cons (pe_slice sl_list (pv 0) po_none (po_some pe_int)) pa_nil)) (pps_cons pe_str pe_int (pps_cons pe_str pe_int (pps_cons pe_str (pv 1) pps_nil)))) (by rfl) (by rfl) (fun z => by cases z) (by decide)))))), ?_⟩
    obtain ⟨ms, e, hm⟩ := cut_ints ns none (some 63)
    refine q_asg (v := .int 7) ev_c fun H1 e1 => ?_
    refine q_forNL (K := K) (xs := ms.map V.int) (el_is (el_sl (K := K) (ev_var rfl) eo_none (eo_some ev_c) (ex_l e1 hs)) e) (fun p i σ' H' => ∃ (st : Int) (o2 : Option V), σ' = [some (.ref sc), some (.int st), o2] ∧ 0 ≤ st ∧ st < 2147483647 ∧ Ex H H' ∧ H' p = some (.lst (ms.map V.int))) (fun p H2 _ e2 h2 => ⟨7, _, rfl, by decide, by decide, e1.trans e2, h2⟩) (fun p i σ' H' _ q => by
      obtain ⟨_, _, _, _, _, _, h2⟩ := q
      exact sq_of h2) (fun p i x σ' H2 hx q => ?_) (fun p σ' H2 q => ?_)
    · obtain ⟨st, o2, rfl, s0, s1, e2, h2⟩ := q
      rw [List.getElem?_map] at hx
      obtain ⟨c, hc, rfl⟩ := Option.map_eq_some_iff.mp hx
      refine s_asg (v := .int ((st * 69621 + (if c < 0 then -c else c) % 2147483629 + 11) % 2147483647)) (ev_op (ev_int (ev_op (ev_op (ev_op (ev_var rfl) ev_c (rv_I (.inl ⟨by omega, by omega⟩))) (ev_op (ev_abs (ev_var rfl)) ev_c (rv_I (by decide))) rv_I0) ev_c rv_I0)) ev_c (rv_I (by decide))) fun H3 e3 => ⟨_, _, rfl, Int.emod_nonneg _ (by decide), Int.emod_lt_of_pos _ (by decide), e2.trans e3, e3 _ _ h2⟩
    · obtain ⟨st, o2, rfl, s0, s1, e2, h2⟩ := q
      refine s_retBag ev_c (el_listN (K := K) (el_is (el_sl (K := K) (ev_var rfl) eo_none (eo_some ev_c) (ex_l e2 hs)) e)) ev_c ev_c ev_c ev_c ev_c (ev_var rfl) bag_ne fun l p H3 hp e3 lp h3 hd => ?_
      exact k p H3 (fresh_back e2 hp) (e2.trans e3) ⟨l, ms, 0, 0, st, hd, h3, lp, Nat.zero_le _, by omega, Int.le_refl 0, s0, s1⟩
end
end KZ
set_option Elab.async false
set_option linter.all false
set_option maxRecDepth 100000
set_option maxHeartbeats 4000000
namespace KZ
open PySem PySem.Spec PyProof.Rows L2 Evl
local macro_rules | `(tactic| walk_at "ev") => `(tactic| repeat' (first | exact ev_c | exact ev_var rfl | exact rv_I0 | refine' rv_I ?_ | refine' rv_eq ?_ | refine' rv_ne ?_ | refine' ev_op ?_ ?_ ?_ | exact ea_nil | refine' ea_cons ?_ ?_ | refine' et_test ?_ | refine' et_B ?_ | refine' et_not ?_ | refine' ev_notV ?_))

open PySem
theorem q_dputS {σ : L2.St} {H : Hp} {ta tb tv : TE} {v : V} {D : Ends} {tz : TS} {d : Addr} {kvs : List (Key × V)} {s : Str} (hv : Ev tv σ H v) (h : Ev ta σ H (.ref d)) (hk : Ev tb σ H (.str s)) (hd : H d = some (.dK kvs)) (hl : kvs.length < 1000) (k : ∀ H1, Ex H H1 → tz D σ (upd H1 d (.dK (putK kvs (.inr s) v)))) : tSeq (sDPut ta tb tv) tz D σ H :=
  q_dput (D := { D with nx := tz D }) hv h hk hd hl k
section
variable {P : Program} {w : World} {K : PySem.W.Frag} {mg : Str → Option Value} {base : Heap} {a : Ads}
theorem ok_draw (T : Txt w K mg a) : FnOk P w K mg base CX0 1 a.f__law_draw a.d__law_draw ["_law_bag_here", "_law_limit"] spDraw := by
  refine T.fn__law_draw.ok sc__law_draw (fun vs H Q E h => ?_) (fun cdv A outer s H vs Q E hr h => ?_)
  · obtain ⟨_, _, rfl, _⟩ := h
    rfl
  · obtain ⟨p, m, rfl, ⟨l, ns, at0, rest0, st, hp, hl, lp, hat, hlen, hr0, hs0, hs1⟩, hm0, hm, k⟩ := h
    have hu := hu_of hr
    have hm1 : (0 : Int) < (m : Int) := by omega
    refine ⟨_, (pss_cons (ps_while PassesOwn.never (PW.pt (pw_and (pt_cmpR op_lt (pe_dget hu (pv 0) pe_str (fun _ _ => rfl)) pe_int (nomark _)) (pw_and1 (pt_cmpR op_lt (pe_dget hu (pv 0) pe_str (fun _ _ => rfl)) (pe_callB call_len_seq (by rfl) T.b_len PySem.boot_len (pa_cons (pe_dget hu (pv 0) pe_str (fun _ _ => rfl)) pa_nil)) (nomark _))))) (pss_cons (ps_set (i := 2) sc__law_draw.nd rfl (Or.inl rfl) (pe_callB call_abs (by rfl) T.b_abs (by decide +kernel) (pa_cons (pe_ix ix_list (pe_dget hu (pv 0) pe_str (fun _ _ => rfl)) (pe_dget hu (pv 0) pe_str (fun _ _ => rfl)) (fun _ _ => rfl)) pa_nil)))
    (pss_cons (ps_dput hu (pv 0) pe_str (pe_op op_add (pe_dget hu (pv 0) pe_str (fun _ _ => rfl)) pe_int) rfl)
    (pss_cons (ps_if (pt_cmpR op_lt (pv 2) (pe_op op_pow pe_int pe_int) (nomark _)) (pss_cons (ps_set (i := 3) sc__law_draw.nd rfl (Or.inl rfl) (pe_op op_mod (pe_callTy call_int1 (by rfl) T.b_int (by decide +kernel) (pa_cons (pe_op op_add (pe_op op_pow (pe_op op_add (pv 2) pe_int) pe_int) (pe_op op_mul (pe_dget hu (pv 0) pe_str (fun _ _ => rfl)) (pe_op op_add (pe_dget hu (pv 0) pe_str (fun _ _ => rfl)) pe_int))) pa_nil)) pe_int))
    (pss_one (ps_ret (pe_op op_mod (pv 3) (pv 1))))) pss_nil)
    (pss_one (ps_dput hu (pv 0) pe_str (pv 2) rfl))))))
    (pss_cons (ps_if (pt_cmpR op_ge (pe_dget hu (pv 0) pe_str (fun _ _ => rfl)) pe_int (nomark _)) (pss_cons (ps_set (i := 4) sc__law_draw.nd rfl (Or.inl rfl) (pe_op op_mod (pe_callTy call_int1 (by rfl) T.b_int (by decide +kernel) (pa_cons (pe_dget hu (pv 0) pe_str (fun _ _ => rfl)) pa_nil)) (pv 1)))
    (pss_cons (ps_dput hu (pv 0) pe_str (pe_op op_fdiv (pe_dget hu (pv 0) pe_str (fun _ _ => rfl)) (pv 1)) rfl)
    (pss_one (ps_ret (pv 4))))) pss_nil)
    (pss_cons (ps_dput hu (pv 0) pe_str (pe_op op_mod (pe_callTy call_int1 (by rfl) T.b_int (by decide +kernel) (pa_cons (pe_op op_add (pe_op op_mul (pe_dget hu (pv 0) pe_str (fun _ _ => rfl)) pe_int) pe_int) pa_nil)) pe_int) rfl)
    (pss_one (ps_ret (pe_op op_mod (pe_op op_mod (pe_callTy call_int1 (by rfl) T.b_int (by decide +kernel) (pa_cons (pe_op op_pow (pe_dget hu (pv 0) pe_str (fun _ _ => rfl)) pe_int) pa_nil)) pe_int) (pv 1))))))), ?_⟩
    have fin : ∀ (H1 : Hp) (x : Int) (b : Nat) (r s' : Int), ExB p H H1 → H1 p = some (.dK (bagK l b r s')) → b ≤ ns.length → 0 ≤ r → 0 ≤ s' → s' < 2147483647 → 0 ≤ x → x < m → Q (.int x) H1 := fun H1 x b r s' e h hb hr h0 h1 hx hx2 => by
      have ex : x = (x.toNat : Nat) := by omega
      rw [ex]
      exact k x.toNat H1 (by omega) e ⟨l, ns, b, r, s', h, e _ _ hl lp, lp, hb, hlen, hr, h0, h1⟩
    have h18 : (10 : Int) ^ (18 : Int).toNat = 1000000000000000000 := by decide
    let W : Nat → L2.St → Hp → Prop := fun mm σ' H' => ∃ (b : Nat) (r : Int) (o2 o3 o4 : Option V), mm = ns.length - b ∧ σ' = [some (.ref p), some (.int (m : Nat)), o2, o3, o4] ∧ ExB p H H' ∧ H' p = some (.dK (bagK l b r st)) ∧ b ≤ ns.length ∧ 0 ≤ r
    refine q_while W (ns.length - at0) ⟨at0, rest0, _, _, _, rfl, rfl, ExB.of (Ex.refl H), hp, hat, hr0⟩ fun mm σ' H' q => ?_
    obtain ⟨b, r, o2, o3, o4, rfl, rfl, e, hp', hb, hr'⟩ := q
    have hl' := e _ _ hl lp
    refine ⟨_, et_and (et_test (ev_op (ev_dget (ev_var rfl) ev_c hp' bag_rest) ev_c rv_I0)) (fun _ => et_test (ev_op (ev_dget (ev_var rfl) ev_c hp' bag_at) (ev_lenS (K := K) (ev_dget (ev_var rfl) ev_c hp' bag_cells) (sq_of hl')) rv_I0)), fun hb2 H1 e1 => ?_, fun _ H1 e1 => ?_⟩
    · have hlt : b < ns.length := by
        have := of_decide_eq_true (Bool.and_eq_true_iff.mp hb2).2
        rw [List.length_map] at this
        omega
      have hc : atI (ns.map V.int) ((b : Nat) : Int) = some (.int ns[b]) := atI_nat (by simp [hlt])
      generalize ns[b] = c at hc
      have hp1 := e1 _ _ hp'
      have hl1 := e1 _ _ hl'
      refine ⟨fun σ2 H2 => ∃ m', m' < ns.length - b ∧ W m' σ2 H2, fun σ2 H2 h => h, ?_⟩
      refine q_asg (v := .int (if c < 0 then -c else c)) (ev_abs (ev_op (ev_dget (ev_var rfl) ev_c hp1 bag_cells) (ev_dget (ev_var rfl) ev_c hp1 bag_at) (rv_ixL (K := K) (sq_of hl1) hc))) fun H2 e2 => ?_
      have c0 : 0 ≤ (if c < 0 then -c else c) := by split <;> omega
      generalize (if c < 0 then -c else c) = z at c0
      have hp2 := e2 _ _ hp1
      refine q_dputS (v := .int ((b + 1 : Nat) : Int)) (ev_is (ev_op (ev_dget (ev_var rfl) ev_c hp2 bag_at) ev_c rv_I0) (by rw [Int.natCast_add] <;> rfl)) (ev_var rfl) ev_c hp2 (by show 4 < 1000; decide) fun H3 e3 => ?_
      rw [put_at]
      have e4 : ExB p H (upd H3 p (.dK (bagK l (b + 1) r st))) := fun d o hd ne => by rw [upd_ne ne]; exact ((e1.trans e2).trans e3) _ _ (e _ _ hd ne)
      have hp4 : upd H3 p (.dK (bagK l (b + 1) r st)) p = some (.dK (bagK l (b + 1) r st)) := upd_same
      generalize upd H3 p (.dK (bagK l (b + 1) r st)) = H4 at e4 hp4
      refine q_when (et_test (ev_op (ev_var rfl) (ev_op ev_c ev_c (rv_I ⟨by decide, by decide, by decide⟩)) rv_I0)) (fun hz H5 e5 => ?_) (fun hz H5 e5 => ?_)
      · have hz := of_decide_eq_true hz
        rw [h18] at hz
        have hp5 := e5 _ _ hp4
        refine q_asg (v := .int (((z + 3) ^ (3 : Int).toNat + st * (((b + 1 : Nat) : Int) + 1)) % 2147483629)) (ev_op (ev_int (ev_op (ev_op (ev_op (ev_var rfl) ev_c rv_I0) ev_c (rv_I ⟨by decide, by decide, by omega⟩)) (ev_op (ev_dget (ev_var rfl) ev_c hp5 bag_state) (ev_op (ev_dget (ev_var rfl) ev_c hp5 bag_at) ev_c rv_I0) (rv_I (.inl ⟨by omega, by omega⟩))) rv_I0)) ev_c (rv_I (by decide))) fun H6 e6 => ?_
        refine s_ret (ev_op (ev_var rfl) (ev_var rfl) (rv_I (by omega))) fun H7 e7 => ?_
        exact fin H7 _ (b + 1) r st (e4.trans (ExB.of ((e5.trans e6).trans e7))) (e7 _ _ (e6 _ _ hp5)) (by omega) hr' hs0 hs1 (Int.emod_nonneg _ (by omega)) (Int.emod_lt_of_pos _ hm1)
      · have hp5 := e5 _ _ hp4
        refine q_dput (v := .int z) (ev_var rfl) (ev_var rfl) ev_c hp5 (by show 4 < 1000; decide) fun H6 e6 => ?_
        rw [put_rest]
        exact ⟨ns.length - (b + 1), by omega, b + 1, z, _, _, _, rfl, rfl, fun d o hd ne => by rw [upd_ne ne]; exact (e5.trans e6) _ _ (e4 _ _ hd ne), upd_same, by omega, c0⟩
    · have hp1 := e1 _ _ hp'
      refine q_when (et_test (ev_op (ev_dget (ev_var rfl) ev_c hp1 bag_rest) ev_c rv_I0)) (fun _ H2 e2 => ?_) (fun _ H2 e2 => ?_)
      · have hp2 := e2 _ _ hp1
        refine q_asg (v := .int (r % m)) (ev_op (ev_int (ev_dget (ev_var rfl) ev_c hp2 bag_rest)) (ev_var rfl) (rv_I (by omega))) fun H3 e3 => ?_
        have hp3 := e3 _ _ hp2
        refine q_dputS (v := .int (r / m)) (ev_op (ev_dget (ev_var rfl) ev_c hp3 bag_rest) (ev_var rfl) (rv_I ⟨by omega, by omega⟩)) (ev_var rfl) ev_c hp3 (by show 4 < 1000; decide) fun H4 e4 => ?_
        rw [put_rest]
        refine s_ret (v := .int (r % m)) (ev_var rfl) fun H5 e5 => ?_
        exact fin H5 _ b (r / m) st (e.trans (fun d o hd ne => e5 _ _ (by rw [upd_ne ne]; exact (((e1.trans e2).trans e3).trans e4) _ _ hd))) (e5 _ _ upd_same) hb (Int.ediv_nonneg hr' (by omega)) hs0 hs1 (Int.emod_nonneg _ (by omega)) (Int.emod_lt_of_pos _ hm1)
      · have hp2 := e2 _ _ hp1
        refine q_dputS (v := .int ((st * 48271 + 13) % 2147483647)) (ev_op (ev_int (ev_op (ev_op (ev_dget (ev_var rfl) ev_c hp2 bag_state) ev_c (rv_I (.inl ⟨by omega, by omega⟩))) ev_c rv_I0)) ev_c (rv_I (by decide))) (ev_var rfl) ev_c hp2 (by show 4 < 1000; decide) fun H3 e3 => ?_
        rw [put_state]
        have n0 : 0 ≤ (st * 48271 + 13) % 2147483647 := Int.emod_nonneg _ (by decide)
        have n1 : (st * 48271 + 13) % 2147483647 < 2147483647 := Int.emod_lt_of_pos _ (by decide)
        generalize (st * 48271 + 13) % 2147483647 = s2 at n0 n1
        refine s_ret (ev_op (ev_op (ev_int (ev_op (ev_dget (ev_var rfl) ev_c upd_same bag_state) ev_c (rv_I ⟨by decide, by decide, by omega⟩))) ev_c (rv_I (by decide))) (ev_var rfl) (rv_I (by omega))) fun H4 e4 => ?_
        exact fin H4 _ b r s2 (e.trans (fun d o hd ne => e4 _ _ (by rw [upd_ne ne]; exact ((e1.trans e2).trans e3) _ _ hd))) (e4 _ _ upd_same) hb hr' n0 n1 (Int.emod_nonneg _ (by omega)) (Int.emod_lt_of_pos _ hm1)
end
end KZ
set_option Elab.async false
set_option linter.all false
set_option maxRecDepth 100000
set_option maxHeartbeats 4000000
namespace KZ
open PySem PySem.Spec PyProof.Rows L2 Evl
local macro_rules | `(tactic| walk_at "ev") => `(tactic| repeat' (first | exact ev_c | exact ev_var rfl | exact rv_I0 | refine' rv_I ?_ | refine' rv_eq ?_ | refine' rv_ne ?_ | refine' ev_op ?_ ?_ ?_ | exact ea_nil | refine' ea_cons ?_ ?_ | refine' et_test ?_ | refine' et_B ?_ | refine' et_not ?_ | refine' ev_notV ?_))

open PySem
def wtN (i : Nat) : Nat := if i = 0 then 4 else if i = 1 then 2 else 1
theorem wt_is (i : Nat) : wtN i = 1 ∨ wtN i = 2 ∨ wtN i = 4 := by
  unfold wtN
  split
  · exact .inr (.inr rfl)
  · split
    · exact .inr (.inl rfl)
    · exact .inl rfl
theorem pat_law : ∀ i : Nat, i < 3 → ∀ n : Nat, n < 512 → 4 * ((n : Int) / 2 ^ (6 + 2 - (i : Int)).toNat % 2) + 2 * ((n : Int) / 2 ^ (3 + 2 - (i : Int)).toNat % 2) + (n : Int) / 2 ^ (2 - (i : Int)).toNat % 2 = (patN n (wtN i) : Nat) := by
  have h : ((List.range 3).all fun (i : Nat) => (List.range 512).all fun (n : Nat) => decide (4 * ((n : Int) / 2 ^ (6 + 2 - (i : Int)).toNat % 2) + 2 * ((n : Int) / 2 ^ (3 + 2 - (i : Int)).toNat % 2) + (n : Int) / 2 ^ (2 - (i : Int)).toNat % 2 = (patN n (wtN i) : Nat))) = true := by decide +kernel
  exact fun i hi n hn => of_decide_eq_true (all_nat (all_nat h i hi) n hn)
/-- a mode's number behind another pattern c of the i-th letter -/
def wN (n i c : Nat) : Nat := n - bitsN (patN n (wtN i)) (wtN i) + bitsN c (wtN i)
def stepW (n i c : Nat) (v : Int) (k : Nat) : Int :=
  let bit : Int := 1 * 2 ^ (3 * (k : Int) + 2 - (i : Int)).toNat
  let v1 : Int := if decide (V.int ((n : Int) / bit % 2) = V.int 1) = true then v - bit else v
  if decide (V.int ((c : Int) / 2 ^ ((k : Nat) : Int).toNat % 2) = V.int 1) = true then v1 + bit else v1
def loopW (n i c : Nat) : Nat → Int
  | 0 => n
  | k + 1 => stepW n i c (loopW n i c k) k
def stepW2 (n i c : Nat) (v : Int) (k : Nat) : Int :=
  let bit : Int := 1 * 2 ^ (3 * (k : Int) + 2 - (i : Int)).toNat
  let v1 : Int := if (n : Int) / bit % 2 = 1 then v - bit else v
  if (c : Int) / 2 ^ ((k : Nat) : Int).toNat % 2 = 1 then v1 + bit else v1
theorem step_eq (n i c : Nat) (v : Int) (k : Nat) : stepW n i c v k = stepW2 n i c v k := by
  have e : ∀ x : Int, decide (V.int x = V.int 1) = decide (x = 1) := fun x => decide_eq_decide.mpr ⟨fun z => by injection z, fun z => by rw [z]⟩
  unfold stepW stepW2
  simp only [e, decide_eq_true_eq]
theorem with_law : ∀ i : Nat, i < 3 → ∀ c : Nat, c < 8 → ∀ n : Nat, n < 512 → stepW2 n i c (stepW2 n i c (stepW2 n i c n 0) 1) 2 = (wN n i c : Nat) ∧ wN n i c < 512 ∧ patN (wN n i c) (wtN i) = c := by
  have h : ((List.range 3).all fun (i : Nat) => (List.range 8).all fun (c : Nat) => (List.range 512).all fun (n : Nat) => decide (stepW2 n i c (stepW2 n i c (stepW2 n i c n 0) 1) 2 = (wN n i c : Nat) ∧ wN n i c < 512 ∧ patN (wN n i c) (wtN i) = c)) = true := by decide +kernel
  exact fun i hi c hc n hn => of_decide_eq_true (all_nat (all_nat (all_nat h i hi) c hc) n hn)
theorem loop_is {n i c : Nat} (hi : i < 3) (hc : c < 8) (hn : n < 512) : loopW n i c 3 = (wN n i c : Nat) := by
  show stepW n i c (stepW n i c (stepW n i c n 0) 1) 2 = _
  rw [step_eq, step_eq, step_eq]
  exact (with_law i hi c hc n hn).1
theorem other_law : ∀ i : Nat, i < 3 → ∀ j : Nat, j < 3 → i ≠ j → ∀ c : Nat, c < 8 → ∀ n : Nat, n < 512 → patN (wN n i c) (wtN j) = patN n (wtN j) := by
  have h : ((List.range 3).all fun (i : Nat) => (List.range 3).all fun (j : Nat) => decide (i = j) || (List.range 8).all fun (c : Nat) => (List.range 512).all fun (n : Nat) => decide (patN (wN n i c) (wtN j) = patN n (wtN j))) = true := by decide +kernel
  intro i hi j hj ne c hc n hn
  have := all_nat (all_nat h i hi) j hj
  rw [decide_eq_false ne, Bool.false_or] at this
  exact of_decide_eq_true (all_nat (all_nat this c hc) n hn)
def spLPat : Sp := fun vs H Q _ => ∃ n i : Nat, vs = [.int n, .int i] ∧ n < 512 ∧ i < 3 ∧ ∀ H', Ex H H' → Q (.int (patN n (wtN i) : Nat)) H'
def spLWith : Sp := fun vs H Q _ => ∃ n i c : Nat, vs = [.int n, .int i, .int c] ∧ n < 512 ∧ i < 3 ∧ c < 8 ∧ ∀ H', Ex H H' → Q (.int (wN n i c : Nat)) H'
section
variable {P : Program} {w : World} {K : PySem.W.Frag} {mg : Str → Option Value} {base : Heap} {a : Ads}
theorem ok_lpattern (T : Txt w K mg a) : FnOk P w K mg base CX0 1 a.f__law_pattern a.d__law_pattern ["_law_number", "_law_at"] spLPat := by
  refine T.fn__law_pattern.ok sc__law_pattern (fun vs H Q E h => ?_) (fun cdv A outer s H vs Q E hr h => ?_)
  · obtain ⟨_, _, rfl, _⟩ := h
    rfl
  · obtain ⟨n, i, rfl, hn, hi, k⟩ := h
    refine ⟨_, (pss_cons (ps_set (i := 2) sc__law_pattern.nd rfl (Or.inl rfl) (pe_lst (pa_cons (pe_op op_mod (pe_callTy call_int1 (by rfl) T.b_int (by decide +kernel) (pa_cons (pe_op op_shr (pv 0) (pe_op op_sub (pe_op op_add pe_int pe_int) (pv 1))) pa_nil)) pe_int) (pa_cons (pe_op op_mod (pe_callTy call_int1 (by rfl) T.b_int (by decide +kernel) (pa_cons (pe_op op_shr (pv 0) (pe_op op_sub (pe_op op_add pe_int pe_int) (pv 1))) pa_nil)) pe_int) (pa_cons (pe_op op_mod (pe_callTy call_int1 (by rfl) T.b_int (by decide +kernel) (pa_cons (pe_op op_shr (pv 0) (pe_op op_sub pe_int (pv 1))) pa_nil)) pe_int) pa_nil)))))
    (pss_one (ps_ret (pe_op op_add (pe_op op_add (pe_op op_mul pe_int (pe_ix ix_list (pv 2) pe_int (fun _ _ => rfl))) (pe_op op_mul pe_int (pe_ix ix_list (pv 2) pe_int (fun _ _ => rfl)))) (pe_ix ix_list (pv 2) pe_int (fun _ _ => rfl)))))), ?_⟩
    have p8 : (0 : Int) ≤ 6 + 2 - (i : Int) ∧ (0 : Int) ≤ 3 + 2 - (i : Int) ∧ (0 : Int) ≤ 2 - (i : Int) := by omega
    refine q_asgL (xs := [.int ((n : Int) / 2 ^ (6 + 2 - (i : Int)).toNat % 2), .int ((n : Int) / 2 ^ (3 + 2 - (i : Int)).toNat % 2), .int ((n : Int) / 2 ^ (2 - (i : Int)).toNat % 2)]) (el_lst (ea_cons (ev_op (ev_int (ev_op (ev_var rfl) (ev_op (ev_op ev_c ev_c rv_I0) (ev_var rfl) rv_I0) (rv_I p8.1))) ev_c (rv_I (by decide))) (ea_cons (ev_op (ev_int (ev_op (ev_var rfl) (ev_op (ev_op ev_c ev_c rv_I0) (ev_var rfl) rv_I0) (rv_I p8.2.1))) ev_c (rv_I (by decide))) (ea_cons (ev_op (ev_int (ev_op (ev_var rfl) (ev_op ev_c (ev_var rfl) rv_I0) (rv_I p8.2.2))) ev_c (rv_I (by decide))) ea_nil))) (by show 3 ≤ 100000; decide)) fun p H1 _ e1 h1 => ?_
    exact s_ret (v := .int (patN n (wtN i) : Nat)) (ev_is (ev_op (ev_op (ev_op ev_c (ev_op (ev_var rfl) ev_c (rv_ixL (K := K) (sq_of h1) rfl)) (rv_I (.inl ⟨by decide, by decide⟩))) (ev_op ev_c (ev_op (ev_var rfl) ev_c (rv_ixL (K := K) (sq_of h1) rfl)) (rv_I (.inl ⟨by decide, by decide⟩))) rv_I0) (ev_op (ev_var rfl) ev_c (rv_ixL (K := K) (sq_of h1) rfl)) rv_I0) (congrArg V.int (pat_law i hi n hn))) fun H2 e2 => k H2 (e1.trans e2)
theorem ok_lwith (T : Txt w K mg a) : FnOk P w K mg base CX0 1 a.f__law_with a.d__law_with ["_law_number", "_law_at", "_law_cast"] spLWith := by
  refine T.fn__law_with.ok sc__law_with (fun vs H Q E h => ?_) (fun cdv A outer s H vs Q E hr h => ?_)
  · obtain ⟨_, _, _, rfl, _⟩ := h
    rfl
  · obtain ⟨n, i, c, rfl, hn, hi, hc, k⟩ := h
    refine ⟨_, (pss_cons (ps_set (i := 3) sc__law_with.nd rfl (Or.inl rfl) (pv 0))
    (pss_cons (ps_for PassesOwn.never rfl (pi_range1 rfl T.b_range (pa_cons pe_int pa_nil)) (pg_name (i := 4) sc__law_with.nd rfl (Or.inl rfl)) (pss_cons (ps_set (i := 5) sc__law_with.nd rfl (Or.inl rfl) (pe_op op_shl pe_int (pe_op op_sub (pe_op op_add (pe_op op_mul pe_int (pv 4)) pe_int) (pv 1))))
    (pss_cons (ps_if (pt_cmpR op_eq (pe_op op_mod (pe_callTy call_int1 (by rfl) T.b_int (by decide +kernel) (pa_cons (pe_op op_fdiv (pv 0) (pv 5)) pa_nil)) pe_int) pe_int (nomark _)) (pss_one (ps_set (i := 3) sc__law_with.nd rfl (Or.inl rfl) (pe_op op_sub (pv 3) (pv 5)))) pss_nil)
    (pss_one (ps_if (pt_cmpR op_eq (pe_op op_mod (pe_callTy call_int1 (by rfl) T.b_int (by decide +kernel) (pa_cons (pe_op op_shr (pv 2) (pv 4)) pa_nil)) pe_int) pe_int (nomark _)) (pss_one (ps_set (i := 3) sc__law_with.nd rfl (Or.inl rfl) (pe_op op_add (pv 3) (pv 5)))) pss_nil)))))
    (pss_one (ps_ret (pv 3))))), ?_⟩
    refine q_asg (v := .int (n : Nat)) (ev_var rfl) fun H1 e1 => ?_
    refine q_forR1 (n := 3) (ea_cons ev_c ea_nil) (by decide) (fun j σ' H' => ∃ o4 o5, σ' = [some (.int (n : Nat)), some (.int (i : Nat)), some (.int (c : Nat)), some (.int (loopW n i c j)), o4, o5] ∧ Ex H H') (fun H2 e2 => ⟨_, _, rfl, e1.trans e2⟩) (fun j σ' H2 hj q => ?_) (fun σ' H2 q => ?_)
    · obtain ⟨o4, o5, rfl, e2⟩ := q
      have hj3 : j < 3 := by omega
      have x0 : (0 : Int) ≤ 3 * (j : Int) + 2 - (i : Int) ∧ 3 * (j : Int) + 2 - (i : Int) ≤ 8 := by omega
      have b0 : (0 : Int) < 1 * 2 ^ (3 * (j : Int) + 2 - (i : Int)).toNat ∧ (1 * 2 ^ (3 * (j : Int) + 2 - (i : Int)).toNat : Int) < 1073741824 := by
        have hx : (3 * (j : Int) + 2 - (i : Int)).toNat ≤ 8 := by omega
        have : ∀ m : Nat, m ≤ 8 → (0 : Int) < 1 * 2 ^ m ∧ (1 * 2 ^ m : Int) < 1073741824 := by decide
        exact this _ hx
      refine q_asg (v := .int (1 * 2 ^ (3 * (j : Int) + 2 - (i : Int)).toNat)) (ev_op ev_c (ev_op (ev_op (ev_op ev_c (ev_var rfl) (rv_I (.inl ⟨by decide, by decide⟩))) ev_c rv_I0) (ev_var rfl) rv_I0) (rv_I ⟨x0.1, by omega, by decide⟩)) fun H3 e3 => ?_
      refine q_ifAsg (b := decide (V.int ((n : Int) / (1 * 2 ^ (3 * (j : Int) + 2 - (i : Int)).toNat) % 2) = V.int 1)) (v := .int (if decide (V.int ((n : Int) / (1 * 2 ^ (3 * (j : Int) + 2 - (i : Int)).toNat) % 2) = V.int 1) = true then loopW n i c j - 1 * 2 ^ (3 * (j : Int) + 2 - (i : Int)).toNat else loopW n i c j)) (et_test (ev_op (ev_op (ev_int (ev_op (ev_var rfl) (ev_var rfl) (rv_I b0))) ev_c (rv_I (by decide))) ev_c (rv_eq rfl))) (fun hb => ev_is (ev_op (ev_var rfl) (ev_var rfl) rv_I0) (by rw [if_pos hb])) (fun hb => by rw [if_neg (by rw [hb]; decide)]; rfl) fun H4 e4 => ?_
      refine s_ifAsg (b := decide (V.int ((c : Int) / 2 ^ ((j : Nat) : Int).toNat % 2) = V.int 1)) (v := .int (loopW n i c (j + 1))) (et_test (ev_op (ev_op (ev_int (ev_op (ev_var rfl) (ev_var rfl) (rv_I (by omega)))) ev_c (rv_I (by decide))) ev_c (rv_eq rfl))) (fun hb => ev_is (ev_op (ev_var rfl) (ev_var rfl) rv_I0) (by show _ = V.int (stepW n i c (loopW n i c j) j); unfold stepW; rw [if_pos hb])) (fun hb => by show [_, _, _, some (V.int (stepW n i c (loopW n i c j) j)), _, _] = _; unfold stepW; rw [if_neg (by rw [hb]; decide)]; rfl) fun H5 e5 => ?_
      exact ⟨_, _, rfl, ((e2.trans e3).trans e4).trans e5⟩
    · obtain ⟨o4, o5, rfl, e2⟩ := q
      exact s_ret (v := .int (wN n i c : Nat)) (ev_is (ev_var rfl) (congrArg V.int (loop_is hi hc hn))) fun H3 e3 => k H3 (e2.trans e3)
end
end KZ
set_option Elab.async false
set_option linter.all false
set_option maxRecDepth 100000
set_option maxHeartbeats 4000000
namespace KZ
open PySem PySem.Spec PyProof.Rows L2 Evl
local macro_rules | `(tactic| walk_at "ev") => `(tactic| repeat' (first | exact ev_c | exact ev_var rfl | exact rv_I0 | refine' rv_I ?_ | refine' rv_eq ?_ | refine' rv_ne ?_ | refine' ev_op ?_ ?_ ?_ | exact ea_nil | refine' ea_cons ?_ ?_ | refine' et_test ?_ | refine' et_B ?_ | refine' et_not ?_ | refine' ev_notV ?_))

open PySem
/-! ### _law_same of two things of one shape -/
def At (H : Hp) (k : Bool) (p : Addr) (xs : List V) : Prop := H p = some (if k = true then .tup xs else .lst xs)
def tyN (k : Bool) : String := if k = true then "tuple" else "list"
inductive SD (H : Hp) : Nat → V → V → Prop
  | int (n : Nat) (i : Int) : SD H n (.int i) (.int i)
  | str (n : Nat) (s : Str) : SD H n (.str s) (.str s)
  | seq {n : Nat} (k : Bool) {p q : Addr} {xs ys : List V} (hp : At H k p xs) (hq : At H k q ys) (l : xs.length = ys.length) (short : ys.length ≤ 1000) (all : ∀ (i : Nat) (x y : V), xs[i]? = some x → ys[i]? = some y → SD H n x y) : SD H (n + 1) (.ref p) (.ref q)
theorem SD.mono {H H' : Hp} {n : Nat} {x y : V} (h : SD H n x y) (e : Ex H H') : SD H' n x y := by
  induction h with
  | int n i => exact .int n i
  | str n s => exact .str n s
  | seq k hp hq l short all ih => exact .seq k (e _ _ hp) (e _ _ hq) l short ih
def spSame (n : Nat) : Sp := fun vs H Q _ => ∃ x y : V, vs = [x, y] ∧ SD H n x y ∧ ∀ H', Ex H H' → Q (.bl true) H'
def spG : Nat → Sp
  | 0 => fun _ _ _ _ => False
  | n + 1 => spSame n
section
variable {K : PySem.W.Frag} {σ : L2.St} {H H' : Hp} {ta tb te : TE} {x y z v : V} {t : Value} {b k : Bool} {p : Addr} {xs : List V} {i : Nat}
theorem At.ty (h : At H k p xs) : TyX K H (.ref p) (.type (tyN k)) := by
  cases k with
  | true => exact .base (.tup h)
  | false => exact .base (.lst h)
theorem At.sq (h : At H k p xs) : SqL K H p xs ∨ SqT K H p xs := by
  cases k with
  | true => exact .inr (st_of h)
  | false => exact .inl (sq_of h)
theorem ev_isiT2 (ha : Ev ta σ H x) (ty : ∀ H', Ex H H' → TyX K H' x t) (e : PySem.W.kitAny K t [.type "tuple", .type "list"] = some b) : Ev (tCB (rIsiT K) (tCons ta (tCons (tTup (tCons (tC (.ty "tuple")) (tCons (tC (.ty "list")) tNil))) tNil))) σ H (.bl b) := fun H1 e1 Q q =>
  ha H1 e1 _ fun H2 e2 => ⟨by show 2 ≤ sizeLine; decide, fun tp ht => ⟨x, tp, [.ty "tuple", .ty "list"], t, [.type "tuple", .type "list"], b, rfl, upd_same, .cons (.ty _) (.cons (.ty _) .nil), ty _ ((e1.trans e2).trans (Ex.new ht)), e, q _ (e2.trans (Ex.new ht))⟩⟩
theorem ev_lenX (ha : Ev ta σ H (.ref p)) (h : At H k p xs) : Ev (tCB (fun xs H Q => ∃ p ys, xs = [V.ref p] ∧ (SqL K H p ys ∨ SqT K H p ys) ∧ Q (.int (ys.length : Nat)) H) (tCons ta tNil)) σ H (.int (xs.length : Nat)) := fun H1 e Q q =>
  ha H1 e _ fun H2 e2 => ⟨p, xs, rfl, At.sq (k := k) (e2 _ _ (e _ _ h)), q H2 e2⟩
theorem rv_ixX (h : At H k p xs) (hx : xs[i]? = some x) : RV (rIx K) (.ref p) (.int (i : Nat)) H x := fun H1 e Q q => by
  have h1 : At H1 k p xs := e _ _ h
  rcases h1.sq (K := K) with s | s
  · exact .inl ⟨p, xs, i, x, rfl, rfl, s, atI_nat hx, q H1 (Ex.refl H1)⟩
  · exact .inr (.inl ⟨p, xs, i, x, rfl, rfl, s, atI_nat hx, q H1 (Ex.refl H1)⟩)
theorem rv_isN {x : V} : RV (fun x y H Q => y = .non ∧ Q (.bl (decide (x = .non))) H) x .non H (.bl (decide (x = .non))) := fun H1 _ _ q => ⟨rfl, q H1 (Ex.refl H1)⟩
theorem kit_seq (k : Bool) : PySem.W.kitAny K (.type (tyN k)) [.type "tuple", .type "list"] = some true := by
  cases k with
  | true => exact kitAny_cons (b := true) (kit_ty (by decide +kernel)) (fun z => nomatch z) (fun _ => rfl)
  | false => exact kitAny_cons (b := false) (kit_ty (by decide +kernel)) (fun _ => kitAny_cons (b := true) (kit_ty (by decide +kernel)) (fun z => nomatch z) (fun _ => rfl)) (fun z => nomatch z)
theorem kit_tup (k : Bool) : PySem.W.kitOne K (.type (tyN k)) (.type "tuple") = some k := by
  cases k with
  | true => exact kit_ty (by decide +kernel)
  | false => exact kit_ty (by decide +kernel)
theorem kit_nseq {n : String} (h1 : kitB n "tuple" = some false) (h2 : kitB n "list" = some false) : PySem.W.kitAny K (.type n) [.type "tuple", .type "list"] = some false :=
  kitAny_cons (b := false) (kit_ty h1) (fun _ => kitAny_cons (b := false) (kit_ty h2) (fun _ => rfl) (fun z => nomatch z)) (fun z => nomatch z)
end
section
variable {P : Program} {w : World} {K : PySem.W.Frag} {mg : Str → Option Value} {base : Heap} {a : Ads}
theorem ok_sameG (T : Txt w K mg a) : ∀ n, FnOk P w K mg base CX0 n a.f__law_same a.d__law_same ["_law_actual", "_law_expected"] (spG n)
  | 0 => ⟨fun _ _ _ _ h => h.elim, fun _ _ _ _ _ _ _ _ _ _ _ _ _ h => h.elim⟩
  | n + 1 => by
    have G__law_same : FnOk P w K mg base CX0 n _ _ _ _ := ok_sameG T n
    refine T.fn__law_same.ok sc__law_same (fun vs H Q E h => ?_) (fun cdv A outer s H vs Q E hr h => ?_)
    · obtain ⟨_, _, rfl, _⟩ := h
      rfl
    · obtain ⟨x, y, rfl, sd, k⟩ := h
      have hrc : Room n _ := hr
      refine ⟨_, (pss_cons (ps_if (pt_val (pe_callB call_isiT (by rfl) T.b_isinstance PyProof.Rows.boot_isinstance (pa_cons (pv 1) (pa_cons (pe_tup (pa_cons (pe_bltn (v := .ty "tuple") (by rfl) T.b_tuple (by decide +kernel) rfl) (pa_cons (pe_bltn (v := .ty "list") (by rfl) T.b_list (by decide +kernel) rfl) pa_nil))) pa_nil)))) (pss_cons (ps_if (PW.pt (pw_or (pt_cmpR op_ne (pe_callB call_isi (by rfl) T.b_isinstance PyProof.Rows.boot_isinstance (pa_cons (pv 1) (pa_cons (pe_bltn (v := .ty "tuple") (by rfl) T.b_tuple (by decide +kernel) rfl) pa_nil))) (pe_callB call_isi (by rfl) T.b_isinstance PyProof.Rows.boot_isinstance (pa_cons (pv 0) (pa_cons (pe_bltn (v := .ty "tuple") (by rfl) T.b_tuple (by decide +kernel) rfl) pa_nil))) (nomark _)) (pw_or1 (pt_not (pt_val (pe_callB call_isiT (by rfl) T.b_isinstance PyProof.Rows.boot_isinstance (pa_cons (pv 0) (pa_cons (pe_tup (pa_cons (pe_bltn (v := .ty "tuple") (by rfl) T.b_tuple (by decide +kernel) rfl) (pa_cons (pe_bltn (v := .ty "list") (by rfl) T.b_list (by decide +kernel) rfl) pa_nil))) pa_nil)))))))) (pss_one (ps_ret pe_bl)) pss_nil)
    (pss_cons (ps_if (pt_cmpR op_ne (pe_callB call_len_seq (by rfl) T.b_len PySem.boot_len (pa_cons (pv 0) pa_nil)) (pe_callB call_len_seq (by rfl) T.b_len PySem.boot_len (pa_cons (pv 1) pa_nil)) (nomark _)) (pss_one (ps_ret pe_bl)) pss_nil)
    (pss_cons (ps_for PassesOwn.never rfl (pi_range1 rfl T.b_range (pa_cons (pe_callB call_len_seq (by rfl) T.b_len PySem.boot_len (pa_cons (pv 1) pa_nil)) pa_nil)) (pg_name (i := 2) sc__law_same.nd rfl (Or.inl rfl)) (pss_one (ps_if (pt_not (pt_val (pe_call G__law_same hrc rfl T.mg__law_same T.fn__law_same.kp (bd__law_same T) .nil pass0 (pa_cons (pe_ix ix_seq (pv 0) (pv 2) (fun _ _ => rfl)) (pa_cons (pe_ix ix_seq (pv 1) (pv 2) (fun _ _ => rfl)) pa_nil))))) (pss_one (ps_ret pe_bl)) pss_nil)))
    (pss_one (ps_ret pe_bl))))) pss_nil)
    (pss_cons (ps_if (pt_cmpR op_isN (pv 1) pe_non (nomark _)) (pss_one (ps_ret (pe_cmpR op_isN (pv 0) pe_non (nomark _)))) pss_nil)
    (pss_cons (ps_if (pt_val (pe_callB call_isi (by rfl) T.b_isinstance PyProof.Rows.boot_isinstance (pa_cons (pv 1) (pa_cons (pe_bltn (v := .ty "bool") (by rfl) T.b_bool (by decide +kernel) rfl) pa_nil)))) (pss_one (ps_ret (pe_and (pe_callB call_isi (by rfl) T.b_isinstance PyProof.Rows.boot_isinstance (pa_cons (pv 0) (pa_cons (pe_bltn (v := .ty "bool") (by rfl) T.b_bool (by decide +kernel) rfl) pa_nil))) (pe_one (pe_cmpR op_eq (pv 0) (pv 1) (nomark _)))))) pss_nil)
    (pss_cons (ps_if (pt_val (pe_callB call_isi (by rfl) T.b_isinstance PyProof.Rows.boot_isinstance (pa_cons (pv 1) (pa_cons (pe_bltn (v := .ty "int") (by rfl) T.b_int (by decide +kernel) rfl) pa_nil)))) (pss_one (ps_ret (pe_and (pe_callB call_isi (by rfl) T.b_isinstance PyProof.Rows.boot_isinstance (pa_cons (pv 0) (pa_cons (pe_bltn (v := .ty "int") (by rfl) T.b_int (by decide +kernel) rfl) pa_nil))) (pe_and (pe_not (pe_callB call_isi (by rfl) T.b_isinstance PyProof.Rows.boot_isinstance (pa_cons (pv 0) (pa_cons (pe_bltn (v := .ty "bool") (by rfl) T.b_bool (by decide +kernel) rfl) pa_nil)))) (pe_one (pe_cmpR op_eq (pv 0) (pv 1) (nomark _))))))) pss_nil)
    (pss_one (ps_ret (pe_and (pe_callB call_isi (by rfl) T.b_isinstance PyProof.Rows.boot_isinstance (pa_cons (pv 0) (pa_cons (pe_bltn (v := .ty "str") (by rfl) T.b_str (by decide +kernel) rfl) pa_nil))) (pe_one (pe_cmpR op_eq (pv 0) (pv 1) (nomark _)))))))))), ?_⟩
      cases sd with
      | int _ i =>
        refine q_when (b := false) (et_B (ev_isiT2 (K := K) (ev_var rfl) (fun _ _ => .base (.int _)) (kit_nseq (by decide +kernel) (by decide +kernel)))) (fun z => nomatch z) fun _ H1 e1 => ?_
        refine q_when (b := false) (et_is (et_test (ev_op (ev_var rfl) ev_c rv_isN)) rfl) (fun z => nomatch z) fun _ H2 e2 => ?_
        refine q_when (b := false) (et_B (ev_isi (ea_cons (ev_var rfl) (ea_cons ev_c ea_nil)) (.ty _) (fun _ _ => .base (.int _)) (kit_ty (by decide +kernel)))) (fun z => nomatch z) fun _ H3 e3 => ?_
        refine q_when (b := true) (et_B (ev_isi (ea_cons (ev_var rfl) (ea_cons ev_c ea_nil)) (.ty _) (fun _ _ => .base (.int _)) (kit_ty (by decide +kernel)))) (fun _ H4 e4 => ?_) (fun z => nomatch z)
        exact s_ret (v := .bl true) (ev_is (ev_andV (a := true) (ev_isi (ea_cons (ev_var rfl) (ea_cons ev_c ea_nil)) (.ty _) (fun _ _ => .base (.int _)) (kit_ty (by decide +kernel))) fun _ => ev_andV (a := true) (ev_is (ev_notV (a := false) (ev_isi (ea_cons (ev_var rfl) (ea_cons ev_c ea_nil)) (.ty _) (fun _ _ => .base (.int _)) (kit_ty (by decide +kernel)))) rfl) fun _ => ev_op (ev_var rfl) (ev_var rfl) (rv_eq rfl)) (by simp)) fun H5 e5 => k H5 ((((e1.trans e2).trans e3).trans e4).trans e5)
      | str _ st =>
        refine q_when (b := false) (et_B (ev_isiT2 (K := K) (ev_var rfl) (fun _ _ => .base (.str _)) (kit_nseq (by decide +kernel) (by decide +kernel)))) (fun z => nomatch z) fun _ H1 e1 => ?_
        refine q_when (b := false) (et_is (et_test (ev_op (ev_var rfl) ev_c rv_isN)) rfl) (fun z => nomatch z) fun _ H2 e2 => ?_
        refine q_when (b := false) (et_B (ev_isi (ea_cons (ev_var rfl) (ea_cons ev_c ea_nil)) (.ty _) (fun _ _ => .base (.str _)) (kit_ty (by decide +kernel)))) (fun z => nomatch z) fun _ H3 e3 => ?_
        refine q_when (b := false) (et_B (ev_isi (ea_cons (ev_var rfl) (ea_cons ev_c ea_nil)) (.ty _) (fun _ _ => .base (.str _)) (kit_ty (by decide +kernel)))) (fun z => nomatch z) fun _ H4 e4 => ?_
        exact s_ret (v := .bl true) (ev_is (ev_andV (a := true) (ev_isi (ea_cons (ev_var rfl) (ea_cons ev_c ea_nil)) (.ty _) (fun _ _ => .base (.str _)) (kit_ty (by decide +kernel))) fun _ => ev_op (ev_var rfl) (ev_var rfl) (rv_eq rfl)) (by simp)) fun H5 e5 => k H5 ((((e1.trans e2).trans e3).trans e4).trans e5)
      | @seq m kd p q xs ys hp hq l short all =>
        refine q_when (b := true) (et_B (ev_isiT2 (K := K) (ev_var rfl) (fun H' e' => At.ty (k := kd) (e' _ _ hq)) (kit_seq kd))) (fun _ H1 e1 => ?_) (fun z => nomatch z)
        have hp1 : At H1 kd p xs := e1 _ _ hp
        have hq1 : At H1 kd q ys := e1 _ _ hq
        refine q_when (b := false) (et_is (et_or (et_test (ev_op (ev_isi (ea_cons (ev_var rfl) (ea_cons ev_c ea_nil)) (.ty _) (fun H' e' => At.ty (k := kd) (e' _ _ hq1)) (kit_tup kd)) (ev_isi (ea_cons (ev_var rfl) (ea_cons ev_c ea_nil)) (.ty _) (fun H' e' => At.ty (k := kd) (e' _ _ hp1)) (kit_tup kd)) (rv_ne rfl))) fun _ => et_not (a := true) (et_B (ev_isiT2 (K := K) (ev_var rfl) (fun H' e' => At.ty (k := kd) (e' _ _ hp1)) (kit_seq kd)))) (by simp)) (fun z => nomatch z) fun _ H2 e2 => ?_
        have hp2 : At H2 kd p xs := e2 _ _ hp1
        have hq2 : At H2 kd q ys := e2 _ _ hq1
        refine q_when (b := false) (et_is (et_test (ev_op (ev_lenX (K := K) (ev_var rfl) hp2) (ev_lenX (K := K) (ev_var rfl) hq2) (rv_ne rfl))) (by rw [l]; simp)) (fun z => nomatch z) fun _ H3 e3 => ?_
        have e03 := (e1.trans e2).trans e3
        have hq3 : At H3 kd q ys := e3 _ _ hq2
        refine q_forR1 (n := (ys.length : Nat)) (ea_cons (ev_lenX (K := K) (ev_var rfl) hq3) ea_nil) (by omega) (fun j σ' H' => ∃ o2, σ' = [some (.ref p), some (.ref q), o2] ∧ Ex H H') (fun H4 e4 => ⟨_, rfl, e03.trans e4⟩) (fun j σ' H4 hj inv => ?_) (fun σ' H4 inv => ?_)
        · obtain ⟨o2, rfl, e4⟩ := inv
          have hj2 : j < ys.length := by omega
          have hj1 : j < xs.length := by omega
          have hp4 : At H4 kd p xs := e4 _ _ hp
          have hq4 : At H4 kd q ys := e4 _ _ hq
          refine s_when (b := false) (et_not (a := true) (et_B (ev_call (vs := [xs[j], ys[j]]) (ea_cons (ev_op (ev_var rfl) (ev_var rfl) (rv_ixX (K := K) hp4 (by simp [hj1]))) (ea_cons (ev_op (ev_var rfl) (ev_var rfl) (rv_ixX (K := K) hq4 (by simp [hj2]))) ea_nil)) fun H5 e5 Q5 q5 E5 => ⟨xs[j], ys[j], rfl, (all j _ _ (by simp [hj1]) (by simp [hj2])).mono (e4.trans e5), q5⟩))) (fun z => nomatch z) fun _ H5 e5 => ⟨_, rfl, e4.trans e5⟩
        · obtain ⟨o2, rfl, e4⟩ := inv
          exact s_ret (v := .bl true) ev_c fun H5 e5 => k H5 (e4.trans e5)
end
end KZ
set_option Elab.async false
set_option linter.all false
set_option maxRecDepth 100000
set_option maxHeartbeats 4000000
namespace KZ
open PySem PySem.Spec PyProof.Rows L2 Evl
local macro_rules | `(tactic| walk_at "ev") => `(tactic| repeat' (first | exact ev_c | exact ev_var rfl | exact rv_I0 | refine' rv_I ?_ | refine' rv_eq ?_ | refine' rv_ne ?_ | refine' ev_op ?_ ?_ ?_ | exact ea_nil | refine' ea_cons ?_ ?_ | refine' et_test ?_ | refine' et_B ?_ | refine' et_not ?_ | refine' ev_notV ?_))

open PySem
/-! ### BadMode is raised -/
def spBadI (a : Ads) : Sp := fun vs H Q _ => ∃ (e : Addr) (v : V), vs = [.ref e, v] ∧ H e = some (exo e a.x_BadMode none) ∧ ∀ dx, H dx = none → dx ≠ e → Q .non (upd (upd H dx (exd dx [(("part" : Str), v)])) e (exo e a.x_BadMode (some dx)))
/-- an error's dict, new: its part is s -/
def Told (a : Ads) (E : XK) (H : Hp) (s : Str) : Prop := ∀ d H', H d = none → Ex H H' → H' d = some (.xd [(("part" : Str), .str s)]) → E (.ref a.x_BadMode) (some d) H'
theorem Told.back {a : Ads} {E : XK} {H H1 : Hp} {s : Str} (h : Told a E H s) (e : Ex H H1) : Told a E H1 s := fun d H' hd e' h' => h d H' (fresh_back e hd) (e.trans e') h'
/-- what raise BadMode(s) asks, and what it leaves -/
theorem raise_told {a : Ads} {E : XK} {H : Hp} {s : Str} (h : Told a E H s) : ∀ e, H e = none → spBadI a (.ref e :: ([.str s] ++ [])) (upd H e (exo e a.x_BadMode none)) (fun v H2 => v = .non ∧ ∃ (d : Addr) (fs : List (Str × V)), H2 e = some (exo e a.x_BadMode (some d)) ∧ H2 d = some (exd d fs) ∧ H d = none ∧ E (.ref a.x_BadMode) (some d) (upd (del H2 e) d (.xd fs))) (fun _ _ _ => False) := fun e he =>
  ⟨e, .str s, rfl, upd_same, fun dx hdx ne => by
    have hd : H dx = none := by rw [upd_ne ne] at hdx; exact hdx
    refine ⟨rfl, dx, [(("part" : Str), .str s)], upd_same, by rw [upd_ne ne, upd_same], hd, h dx _ hd (fun b o hb => ?_) upd_same⟩
    have be := ne_of_none hb he
    have bd := ne_of_none hb hd
    rw [upd_ne bd, del_ne be, upd_ne be, upd_ne bd, upd_ne be]
    exact hb⟩
theorem rv_kix {K : PySem.W.Frag} {w : World} {d : Addr} {es : Array DictEntry} {n : Nat} {z : Str} {u : Value} {v : V} {H : Hp} (D : KDict K w d es n) (h : PySem.W.nsIn K d z = some (some u)) (r : RelV v u) : RV (rIxD K w) (.ref d) (.str z) H v := fun H1 _ _ q => ⟨d, z, v, rfl, rfl, ⟨es, n, u, D.at_, D.lit, h, r⟩, q H1 (Ex.refl H1)⟩
theorem rv_nkd {K : PySem.W.Frag} {d : Addr} {z : Str} {r : Option Value} {H : Hp} (h : PySem.W.nsIn K d z = some r) : RV (fun x y H Q => ∃ (z : Str) (r : Option Value), x = .str z ∧ y = .ref d ∧ PySem.W.nsIn K d z = some r ∧ Q (.bl (!r.isSome)) H) (.str z) (.ref d) H (.bl (!r.isSome)) := fun H1 _ _ q => ⟨z, r, rfl, rfl, h, q H1 (Ex.refl H1)⟩
/-- a value that is no letter -/
def OddL (K : PySem.W.Frag) (H : Hp) (x : V) : Prop := (∃ t : String, TyX K H x (.type t) ∧ (∀ H', Ex H H' → TyX K H' x (.type t)) ∧ kitB t "str" = some false) ∨ ∃ s ∈ oddL, x = .str s
def letS (i : Nat) : Str := if i = 0 then "r" else if i = 1 then "w" else "x"
def spWeight (K : PySem.W.Frag) (a : Ads) : Sp := fun vs H Q E => ∃ x : V, vs = [x] ∧ ((∃ i : Nat, i < 3 ∧ x = .str (letS i) ∧ ∀ H', Ex H H' → Q (.int (wtN i : Nat)) H') ∨ (OddL K H x ∧ Told a E H "letter"))
section
variable {P : Program} {w : World} {K : PySem.W.Frag} {mg : Str → Option Value} {base : Heap} {a : Ads}
theorem ok_BadMode_init (T : Txt w K mg a) : FnOk P w K mg base CX0 1 a.f_BadModeD_initD a.d_BadModeD_initD ["self", "part"] (spBadI a) := by
  refine T.fn_BadModeD_initD.ok sc_BadModeD_initD (fun vs H Q E h => ?_) (fun cdv A outer s H vs Q E hr h => ?_)
  · obtain ⟨_, _, rfl, _⟩ := h
    rfl
  · obtain ⟨e, v, rfl, he, k⟩ := h
    refine ⟨_, (pss_one (ps_ost (pv 0) (pv 1))), ?_⟩
    exact ⟨v, rfl, .ref e, rfl, e, a.x_BadMode, rfl, T.ox_BadMode, T.np_BadMode, .inl ⟨he, fun dx hdx ne => k dx hdx ne⟩⟩
theorem wt_let (T : Txt w K mg a) (i : Nat) (hi : i < 3) : ∃ es n, KDict K w a.k_WEIGHTS es n ∧ ∃ t, PySem.W.nsIn K a.k_WEIGHTS (letS i) = some (some (.int (wtN i : Nat) t)) := by
  obtain ⟨es, n, D, ⟨t4, hr_⟩, ⟨t2, hw_⟩, ⟨t1, hx_⟩, _⟩ := T.d_WEIGHTS
  match i, hi with
  | 0, _ => exact ⟨es, n, D, t4, hr_⟩
  | 1, _ => exact ⟨es, n, D, t2, hw_⟩
  | 2, _ => exact ⟨es, n, D, t1, hx_⟩
theorem ok_weight_of (T : Txt w K mg a) : FnOk P w K mg base (L2.CX P w) 4 a.f_weight_of a.d_weight_of ["letter"] (spWeight K a) := by
  have G_BadMode_init : FnOk P w K mg base CX0 2 _ _ _ _ := (ok_BadMode_init T).mono (by decide)
  refine T.fn_weight_of.okX sc_weight_of (fun vs H Q E h => ?_) (fun cdv A outer s H vs Q E hr h => ?_)
  · obtain ⟨_, rfl, _⟩ := h
    rfl
  · obtain ⟨x, rfl, h⟩ := h
    have hrm : Room (2 + 1) _ := hr
    obtain ⟨es, n, D, _, _, _, odd⟩ := id T.d_WEIGHTS
    refine ⟨_, (pss_cons (ps_if (PW.pt (pw_or (pt_not (pt_val (pe_callB call_isi (by rfl) T.b_isinstance PyProof.Rows.boot_isinstance (pa_cons (pv 0) (pa_cons (pe_bltn (v := .ty "str") (by rfl) T.b_str (by decide +kernel) rfl) pa_nil))))) (pw_or1 (pt_cmpR (op_notIn_kd D) (pv 0) (pe_glob (v := .ref a.k_WEIGHTS) rfl T.mg_WEIGHTS rfl) (by rfl))))) (pss_one (ps_raise rfl (takes_of rfl rfl rfl rfl) (pmk_oex T.ox_BadMode T.ic_BadMode T.it_BadMode G_BadMode_init hrm (bd_BadModeD_initD T) .nil pass0 rfl T.mg_BadMode (pa_cons pe_str pa_nil)))) pss_nil)
    (pss_one (ps_ret (pe_ix ix_kdict (pe_glob (v := .ref a.k_WEIGHTS) rfl T.mg_WEIGHTS rfl) (pv 0) (fun _ _ => rfl))))), ?_⟩
    rcases h with ⟨i, hi, rfl, k⟩ | ⟨ol, told⟩
    · obtain ⟨es', n', D', t, ht⟩ := wt_let T i hi
      refine q_when (b := false) (et_is (et_or (et_not (a := true) (et_B (ev_isi (ea_cons (ev_var rfl) (ea_cons ev_c ea_nil)) (.ty _) (fun _ _ => .base (.str _)) (kit_ty (by decide +kernel))))) fun _ => et_test (ev_op (ev_var rfl) ev_c (rv_nkd ht))) rfl) (fun z => nomatch z) fun _ H1 e1 => ?_
      exact s_ret (v := .int (wtN i : Nat)) (ev_op ev_c (ev_var rfl) (rv_kix D ht ⟨t, rfl⟩)) fun H2 e2 => k H2 (e1.trans e2)
    · rcases ol with ⟨ty, t0, tm, kb⟩ | ⟨s, hs, rfl⟩
      · refine q_when (b := true) (et_or (a := true) (b := true) (et_is (et_not (a := false) (et_B (ev_isi (ea_cons (ev_var rfl) (ea_cons ev_c ea_nil)) (.ty _) tm (kit_ty kb)))) rfl) (fun z => nomatch z)) (fun _ H1 e1 => ?_) (fun z => nomatch z)
        exact ⟨by show 1 ≤ 1000; decide, raise_told (told.back e1)⟩
      · refine q_when (b := true) (et_is (et_or (et_not (a := true) (et_B (ev_isi (ea_cons (ev_var rfl) (ea_cons ev_c ea_nil)) (.ty _) (fun _ _ => .base (.str _)) (kit_ty (by decide +kernel))))) fun _ => et_test (ev_op (ev_var rfl) ev_c (rv_nkd (odd s hs)))) rfl) (fun _ H1 e1 => ?_) (fun z => nomatch z)
        exact ⟨by show 1 ≤ 1000; decide, raise_told (told.back e1)⟩
end
end KZ
set_option Elab.async false
set_option linter.all false
set_option maxRecDepth 100000
set_option maxHeartbeats 4000000
namespace KZ
open PySem PySem.Spec PyProof.Rows L2 Evl
local macro_rules | `(tactic| walk_at "ev") => `(tactic| repeat' (first | exact ev_c | exact ev_var rfl | exact rv_I0 | refine' rv_I ?_ | refine' rv_eq ?_ | refine' rv_ne ?_ | refine' ev_op ?_ ?_ ?_ | exact ea_nil | refine' ea_cons ?_ ?_ | refine' et_test ?_ | refine' et_B ?_ | refine' et_not ?_ | refine' ev_notV ?_))

open PySem
theorem FnOk.either {P : Program} {w : World} {K : PySem.W.Frag} {mg : Str → Option Value} {base : Heap} {CX : CXT} {k : Nat} {f : Addr} {fd : FuncData} {ps : List Str} {s1 s2 : Sp} (F1 : FnOk P w K mg base CX k f fd ps s1) (F2 : FnOk P w K mg base CX k f fd ps s2) : FnOk P w K mg base CX k f fd ps (fun vs H Q E => s1 vs H Q E ∨ s2 vs H Q E) :=
  ⟨fun vs H Q E h => h.elim (F1.len vs H Q E) (F2.len vs H Q E), fun A outer s H args us vs Q E hr e0 hb r h => h.elim (F1.run A outer s H args us vs Q E hr e0 hb r) (F2.run A outer s H args us vs Q E hr e0 hb r)⟩
/-- a value of this type, now and later -/
def TyE (K : PySem.W.Frag) (H : Hp) (x : V) (t : String) : Prop := ∀ H', Ex H H' → TyX K H' x (.type t)
/-- no whole number from 0 to m -/
def BadW (K : PySem.W.Frag) (H : Hp) (x : V) (m : Int) : Prop := (∃ (t : String) (b1 b2 : Bool), TyE K H x t ∧ kitB t "int" = some b1 ∧ kitB t "bool" = some b2 ∧ (b1 && !b2) = false) ∨ ∃ i : Int, x = .int i ∧ (i < 0 ∨ m < i)
theorem BadW.mono {K : PySem.W.Frag} {H H' : Hp} {x : V} {m : Int} (h : BadW K H x m) (e : Ex H H') : BadW K H' x m := by
  rcases h with ⟨t, b1, b2, ty, h1, h2, h3⟩ | h
  · exact .inl ⟨t, b1, b2, fun H1 e1 => ty H1 (e.trans e1), h1, h2, h3⟩
  · exact .inr h
theorem OddL.mono {K : PySem.W.Frag} {H H' : Hp} {x : V} (h : OddL K H x) (e : Ex H H') : OddL K H' x := by
  rcases h with ⟨t, ty, tm, kb⟩ | h
  · exact .inl ⟨t, tm H' e, fun H1 e1 => tm H1 (e.trans e1), kb⟩
  · exact .inr h
def spW1 (K : PySem.W.Frag) : Sp := fun vs H Q _ => ∃ (x : V) (t : String) (b1 b2 : Bool), vs = [x] ∧ TyE K H x t ∧ kitB t "int" = some b1 ∧ kitB t "bool" = some b2 ∧ ∀ H', Ex H H' → Q (.bl (b1 && !b2)) H'
def spW2 (K : PySem.W.Frag) : Sp := fun vs H Q _ => ∃ (x : V) (m : Int), vs = [x, .int m] ∧ BadW K H x m ∧ ∀ H', Ex H H' → Q (.bl false) H'
theorem keep_law : ∀ i : Nat, i < 3 → ∀ c : Nat, c < 8 → ∀ n : Nat, n < 512 → Builtin.bitOr (Builtin.bitAnd (n : Int) (511 - (bitsN 7 (wtN i) : Nat))) (bitsN c (wtN i) : Nat) = (wN n i c : Nat) := by
  have h : ((List.range 3).all fun (i : Nat) => (List.range 8).all fun (c : Nat) => (List.range 512).all fun (n : Nat) => decide (Builtin.bitOr (Builtin.bitAnd (n : Int) (511 - (bitsN 7 (wtN i) : Nat))) (bitsN c (wtN i) : Nat) = (wN n i c : Nat))) = true := by decide +kernel
  exact fun i hi c hc n hn => of_decide_eq_true (all_nat (all_nat (all_nat h i hi) c hc) n hn)
def spMPat (K : PySem.W.Frag) (a : Ads) : Sp := fun vs H Q E => ∃ (p : Addr) (n : Nat) (x : V), vs = [.ref p, x] ∧ ModeAt a H p n ∧ n < 512 ∧ ((∃ i : Nat, i < 3 ∧ x = .str (letS i) ∧ ∀ H', Ex H H' → Q (.int (patN n (wtN i) : Nat)) H') ∨ (OddL K H x ∧ Told a E H "letter"))
def spMWith (K : PySem.W.Frag) (a : Ads) : Sp := fun vs H Q E => ∃ (p : Addr) (n : Nat) (x y : V), vs = [.ref p, x, y] ∧ ModeAt a H p n ∧ n < 512 ∧
  ((∃ i c : Nat, i < 3 ∧ x = .str (letS i) ∧ c < 8 ∧ y = .int c ∧ ∀ q H', H q = none → Ex H H' → ModeAt a H' q (wN n i c) → Q (.ref q) H') ∨ (OddL K H x ∧ Told a E H "letter") ∨ (∃ i : Nat, i < 3 ∧ x = .str (letS i) ∧ BadW K H y 7 ∧ Told a E H "pattern"))
def EvM (a : Ads) (te : TE) (σ : L2.St) (H : Hp) (n : Nat) : Prop := ∀ H1, Ex H H1 → ∀ Q : VK, (∀ p H2, H1 p = none → Ex H1 H2 → ModeAt a H2 p n → Q (.ref p) H2) → te σ H1 Q
theorem em_mode {a : Ads} {te : TE} {σ : L2.St} {H : Hp} {n : Nat} {E : XK} (h : Ev te σ H (.int n)) (hn : n < 512) : EvM a (tMake a.f_Mode (spMode a) [] E (tCons te tNil)) σ H n := fun H1 e1 Q q =>
  h H1 e1 _ fun H2 e2 x dx hx hdx hne => ⟨x, dx, n, rfl, hn, upd_same, fun H3 k3 h3 => ⟨rfl, q x H3 (fresh_back e2 hx) (e2.trans fun b o hb => by
    have bx := ne_of_none hb hx
    have bdx := ne_of_none hb hdx
    exact k3 b o (by rw [upd_ne bx, upd_ne bdx]; exact hb) bx) ⟨dx, h3⟩⟩⟩
section
variable {P : Program} {w : World} {K : PySem.W.Frag} {mg : Str → Option Value} {base : Heap} {a : Ads}
theorem ok_is_whole1 (T : Txt w K mg a) : FnOk P w K mg base CX0 1 a.f_is_whole a.d_is_whole ["value"] (spW1 K) := by
  refine T.fn_is_whole.ok sc_is_whole (fun vs H Q E h => ?_) (fun cdv A outer s H vs Q E hr h => ?_)
  · obtain ⟨_, _, _, _, rfl, _⟩ := h
    rfl
  · obtain ⟨x, t, b1, b2, rfl, ty, h1, h2, k⟩ := h
    refine ⟨_, (pss_one (ps_ret (pe_and (pe_callB call_isi (by rfl) T.b_isinstance PyProof.Rows.boot_isinstance (pa_cons (pv 0) (pa_cons (pe_bltn (v := .ty "int") (by rfl) T.b_int (by decide +kernel) rfl) pa_nil))) (pe_one (pe_not (pe_callB call_isi (by rfl) T.b_isinstance PyProof.Rows.boot_isinstance (pa_cons (pv 0) (pa_cons (pe_bltn (v := .ty "bool") (by rfl) T.b_bool (by decide +kernel) rfl) pa_nil)))))))), ?_⟩
    exact s_ret (v := .bl (b1 && !b2)) (ev_andV (a := b1) (ev_isi (ea_cons (ev_var rfl) (ea_cons ev_c ea_nil)) (.ty _) ty (kit_ty h1)) fun _ => ev_notV (a := b2) (ev_isi (ea_cons (ev_var rfl) (ea_cons ev_c ea_nil)) (.ty _) ty (kit_ty h2))) fun H1 e1 => k H1 e1
theorem ok_is_whole2 (T : Txt w K mg a) : FnOk P w K mg base CX0 3 a.f_is_whole_to a.d_is_whole_to ["value", "most"] (spW2 K) := by
  have G_is_whole : FnOk P w K mg base CX0 1 _ _ _ _ := ok_is_whole1 T
  refine T.fn_is_whole_to.ok sc_is_whole_to (fun vs H Q E h => ?_) (fun cdv A outer s H vs Q E hr h => ?_)
  · obtain ⟨_, _, rfl, _⟩ := h
    rfl
  · obtain ⟨x, m, rfl, bad, k⟩ := h
    have hrc : Room 1 _ := hr.mono (by decide)
    refine ⟨_, (pss_one (ps_ret (pe_and (pe_call G_is_whole hrc rfl T.mg_is_whole T.fn_is_whole.kp (bd_is_whole T) .nil pass0 (pa_cons (pv 0) pa_nil)) (pe_one (pe_chain op_le op_le pe_int (pv 0) (pv 1)))))), ?_⟩
    rcases bad with ⟨t, b1, b2, ty, h1, h2, h3⟩ | ⟨i, rfl, hi⟩
    · exact s_ret (v := .bl false) (ev_is (ev_andV (a := false) (b := true) (ev_is (ev_call (vs := [x]) (ea_cons (ev_var rfl) ea_nil) fun H1 e Q q E => ⟨x, t, b1, b2, rfl, fun H2 e2 => ty H2 (e.trans e2), h1, h2, q⟩) (by rw [h3])) (fun z => nomatch z)) rfl) fun H1 e1 => k H1 e1
    · refine s_ret (v := .bl false) (ev_is (ev_andV (a := true) (ev_call (vs := [.int i]) (ea_cons (ev_var rfl) ea_nil) fun H1 e Q q E => ⟨.int i, "int", true, false, rfl, fun _ _ => .base (.int _), by decide +kernel, by decide +kernel, q⟩) fun _ => ev_chain ev_c (ev_var rfl) rv_I0 fun _ => ⟨ev_var rfl, rv_I0⟩) ?_) fun H1 e1 => k H1 e1
      by_cases h0 : 0 ≤ i
      · rw [decide_eq_false (show ¬ i ≤ m by omega)]
        simp
      · rw [decide_eq_false h0]
        rfl
theorem ok_MPattern (T : Txt w K mg a) : FnOk P w K mg base (L2.CX P w) 5 a.f_Mode_pattern a.d_Mode_pattern ["self", "letter"] (spMPat K a) := by
  have G_weight_of : FnOk P w K mg base (L2.CX P w) 4 _ _ _ _ := ok_weight_of T
  have G_pattern_in : FnOk P w K mg base CX0 4 _ _ _ _ := (ok_pattern_in T.fn_pattern_in).mono (by decide)
  refine T.fn_Mode_pattern.okX sc_Mode_pattern (fun vs H Q E h => ?_) (fun cdv A outer s H vs Q E hr h => ?_)
  · obtain ⟨_, _, _, rfl, _⟩ := h
    rfl
  · obtain ⟨p, n, x, rfl, ⟨dx, hp⟩, hn, h⟩ := h
    have hrc : Room 4 _ := hr
    refine ⟨_, (pss_one (ps_ret (pe_call G_pattern_in hrc rfl T.mg_pattern_in T.fn_pattern_in.kp (bd_pattern_in T) .nil pass0 (pa_cons (pe_fld (pv 0) rfl) (pa_cons (pe_call G_weight_of hrc rfl T.mg_weight_of T.fn_weight_of.kp (bd_weight_of T) .nil (passes_call (takes_of rfl rfl rfl rfl) fun _ _ _ _ h => h) (pa_cons (pv 1) pa_nil)) pa_nil))))), ?_⟩
    refine ⟨.ref p, rfl, p, a.f_Mode, dx, _, .int (n : Nat), rfl, hp, T.c_Mode, T.n_number_Mode, (by simp [List.lookup]), x, rfl, ?_⟩
    rcases h with ⟨i, hi, rfl, k⟩ | ⟨odd, told⟩
    · exact ⟨_, rfl, .inl ⟨i, hi, rfl, fun H2 e2 => ⟨n, wtN i, rfl, hn, wt_is i, fun H3 e3 => k H3 (e2.trans e3)⟩⟩⟩
    · exact ⟨_, rfl, .inr ⟨odd, told⟩⟩
theorem ok_MWith (T : Txt w K mg a) : FnOk P w K mg base (L2.CX P w) 7 a.f_Mode_with_pattern a.d_Mode_with_pattern ["self", "letter", "pattern"] (spMWith K a) := by
  have G_weight_of : FnOk P w K mg base (L2.CX P w) 6 _ _ _ _ := (ok_weight_of T).mono (by decide)
  have G_is_whole_to : FnOk P w K mg base CX0 6 _ _ _ _ := (FnOk.either (ok_is_whole_to T) (ok_is_whole2 T)).mono (by decide)
  have G_bits_of : FnOk P w K mg base CX0 6 _ _ _ _ := (ok_bits_of T.fn_bits_of).mono (by decide)
  have G_Mode_init : FnOk P w K mg base CX0 5 _ _ _ _ := ok_Mode_init T
  have G_BadMode_init : FnOk P w K mg base CX0 5 _ _ _ _ := (ok_BadMode_init T).mono (by decide)
  refine T.fn_Mode_with_pattern.okX sc_Mode_with_pattern (fun vs H Q E h => ?_) (fun cdv A outer s H vs Q E hr h => ?_)
  · obtain ⟨_, _, _, _, rfl, _⟩ := h
    rfl
  · obtain ⟨p, n, x, y, rfl, ⟨dx, hp⟩, hn, h⟩ := h
    have hrc : Room 6 _ := hr
    have hrm : Room (5 + 1) _ := hr
    obtain ⟨tm, hm⟩ := T.k_Mode_MOST
    refine ⟨_, (pss_cons (ps_set (i := 3) sc_Mode_with_pattern.nd rfl (Or.inl rfl) (pe_call G_weight_of hrc rfl T.mg_weight_of T.fn_weight_of.kp (bd_weight_of T) .nil (passes_call (takes_of rfl rfl rfl rfl) fun _ _ _ _ h => h) (pa_cons (pv 1) pa_nil)))
    (pss_cons (ps_if (pt_not (pt_val (pe_call G_is_whole_to hrc rfl T.mg_is_whole_to T.fn_is_whole_to.kp (bd_is_whole_to T) .nil pass0 (pa_cons (pv 2) (pa_cons pe_int pa_nil))))) (pss_one (ps_raise rfl (takes_of rfl rfl rfl rfl) (pmk_oex T.ox_BadMode T.ic_BadMode T.it_BadMode G_BadMode_init hrm (bd_BadModeD_initD T) .nil pass0 rfl T.mg_BadMode (pa_cons pe_str pa_nil)))) pss_nil)
    (pss_cons (ps_set (i := 4) sc_Mode_with_pattern.nd rfl (Or.inl rfl) (pe_op op_and (pe_fld (pv 0) rfl) (pe_op op_sub (ClX.pe_cval (pe_glob (v := .ref a.f_Mode) rfl T.mg_Mode rfl)) (pe_call G_bits_of hrc rfl T.mg_bits_of T.fn_bits_of.kp (bd_bits_of T) .nil pass0 (pa_cons pe_int (pa_cons (pv 3) pa_nil))))))
    (pss_one (ps_ret (pe_make T.mk_Mode G_Mode_init hrm rfl T.mg_Mode (bd_ModeD_initD T) .nil pass0 (pa_cons (pe_op op_or (pv 4) (pe_call G_bits_of hrc rfl T.mg_bits_of T.fn_bits_of.kp (bd_bits_of T) .nil pass0 (pa_cons (pv 2) (pa_cons (pv 3) pa_nil)))) pa_nil))))))), ?_⟩
    rcases h with ⟨i, c, hi, rfl, hc, rfl, k⟩ | ⟨odd, told⟩ | ⟨i, hi, rfl, bad, told⟩
    · refine q_asg (v := .int (wtN i : Nat)) (fun H1 e Q q => ⟨_, rfl, _, rfl, .inl ⟨i, hi, rfl, fun H2 e2 => q H2 e2⟩⟩) fun H1 e1 => ?_
      refine q_when (b := false) (et_not (a := true) (et_B (ev_call (sp := fun vs H Q E => spTrue2 vs H Q E ∨ spW2 K vs H Q E) (dvs := []) (vs := [.int (c : Nat), .int 7]) (ea_cons (ev_var (i := 2) rfl) (ea_cons ev_c ea_nil)) fun H2 e Q q E => .inl ⟨c, 7, rfl, by omega, by omega, q⟩))) (fun z => nomatch z) fun _ H2 e2 => ?_
      have hp2 := (e1.trans e2) _ _ hp
      refine q_asg (v := .int (Builtin.bitAnd (n : Int) (511 - (bitsN 7 (wtN i) : Nat)))) (ev_op (ev_fld (ev_var rfl) hp2 T.c_Mode T.n_number_Mode (by simp [List.lookup])) (ev_op (ev_cval ev_c T.r_Mode hm) (ev_call (vs := [.int 7, .int (wtN i : Nat)]) (ea_cons ev_c (ea_cons (ev_var rfl) ea_nil)) fun H3 e Q q E => ⟨7, wtN i, rfl, by decide, wt_is i, q⟩) rv_I0) rv_I0) fun H3 e3 => ?_
      refine em_mode (a := a) (n := wN n i c) (ev_is (ev_op (ev_var rfl) (ev_call (vs := [.int (c : Nat), .int (wtN i : Nat)]) (ea_cons (ev_var rfl) (ea_cons (ev_var rfl) ea_nil)) fun H4 e Q q E => ⟨c, wtN i, rfl, hc, wt_is i, q⟩) rv_I0) (congrArg V.int (keep_law i hi c hc n hn))) (with_law i hi c hc n hn).2.1 H3 (Ex.refl _) _ fun q H4 hq e4 m => k q H4 (fresh_back ((e1.trans e2).trans e3) hq) (((e1.trans e2).trans e3).trans e4) m
    · exact ⟨_, rfl, _, rfl, .inr ⟨odd, told⟩⟩
    · refine q_asg (v := .int (wtN i : Nat)) (fun H1 e Q q => ⟨_, rfl, _, rfl, .inl ⟨i, hi, rfl, fun H2 e2 => q H2 e2⟩⟩) fun H1 e1 => ?_
      refine q_when (b := true) (et_is (et_not (a := false) (et_B (ev_call (sp := fun vs H Q E => spTrue2 vs H Q E ∨ spW2 K vs H Q E) (dvs := []) (vs := [y, .int 7]) (ea_cons (ev_var (i := 2) rfl) (ea_cons ev_c ea_nil)) fun H2 e Q q E => .inr ⟨y, 7, rfl, bad.mono (e1.trans e), q⟩))) rfl) (fun _ H2 e2 => ?_) (fun z => nomatch z)
      exact ⟨by show 1 ≤ 1000; decide, raise_told (told.back (e1.trans e2))⟩
end
end KZ
set_option Elab.async false
set_option linter.all false
set_option maxRecDepth 100000
set_option maxHeartbeats 4000000
namespace KZ
open PySem PySem.Spec PyProof.Rows L2 Evl
local macro_rules | `(tactic| walk_at "ev") => `(tactic| repeat' (first | exact ev_c | exact ev_var rfl | exact rv_I0 | refine' rv_I ?_ | refine' rv_eq ?_ | refine' rv_ne ?_ | refine' ev_op ?_ ?_ ?_ | exact ea_nil | refine' ea_cons ?_ ?_ | refine' et_test ?_ | refine' et_B ?_ | refine' et_not ?_ | refine' ev_notV ?_))

open PySem
/-! ### C.m(..), m a staticmethod; o.m(k = v) of an own method -/
def tSMeth (C : Addr) (sp : Sp) (E : XK) (ta : TE) (t : TA) : TE := fun σ H Q => ta σ H fun x H1 => x = .ref C ∧ t σ H1 fun vs H2 => sp vs H2 Q E
def tSMethK (C : Addr) (sp : Sp) (gV : List V → List V → List V) (E : XK) (ta : TE) (tk : TA) : TE := fun σ H Q => ta σ H fun x H1 => x = .ref C ∧ tk σ H1 fun zs H2 => sp (gV [] zs) H2 Q E
def tMethK (C : Addr) (m : Str) (sp : Sp) (gV : List V → List V → List V) (E : XK) (ta : TE) (tk : TA) : TE := fun σ H Q => ta σ H fun x H1 => ∃ a dx fs, x = .ref a ∧ H1 a = some (.ins C dx fs) ∧ fs.lookup m = none ∧ tk σ H1 fun zs H2 => sp (gV [x] zs) H2 Q E
section
variable {X : Cx} {CX : CXT} {k : Nat} {C p g : Addr} {sp : Sp} {E : XK} {o e : Expr} {es : List Expr} {m : Str} {pos apos : Pos} {ta : TE} {t tk : TA} {fd : FuncData} {ps ks : List Str} {kws : List Keyword} {gg : List Value → List Value → List Value} {gV : List V → List V → List V}
theorem getsm_ok {pl : Sem Bool} {pins : List (Addr × Obj)} {σ : L2.St} {H : Hp} {s : Shared} {A : Around} {E : Value → Shared → Prop} {Q : Value × List Value → Shared → Prop} (I : Inv X pins σ H s) (r : ClX.CRead X.K C (.type "type")) (c : SMet X.K C m p g)
    (h : ∀ s', Inv X pins σ H s' → Q (.ref g, []) s') : wpAny (model X.prog X.w) A (getMethod (.ref C) m pl) Q E s := by
  obtain ⟨rest, hp⟩ := c.rc
  refine PySem.W.method_cls I.kIn r.ga (PySem.W.cls_bind I.kIn r.rd c.at_ ?_)
  exact wpAny_call (PySem.W.sm_get (s := { s with toks := s.toks + 1 }) I.kIn hp (PySem.W.handed_on rfl (h _ (I.tok _))))
theorem pe_smeth {pl : Sem Bool} (he : PE X o ta) (r : ClX.CRead X.K C (.type "type")) (c : SMet X.K C m p g) (F : FnR X.prog X.w X.K X.mg X.base CX k g sp) (hr : Room k X.A) (hx : Passes CX X E) (ha : PA X (e :: es) t)
    (hst : starEach (e :: es) X.env = (false, eval e X.env) :: starEach es X.env := by rfl) (hpl : (backTo pos (starEach es X.env)).any (·.1) = false := by rfl)
    (ht : eval (.Call (.Attribute o m apos) (e :: es) [] pos) X.env = (do
      let ov ← eval o X.env
      standAt apos.atName
      let (f, first) ← holding [ov] (getMethod ov m pl)
      callWith pos f first (backTo pos (starEach (e :: es) X.env)) (backToKw pos (keywordEach [] X.env))) := by rfl) :
    PE X (.Call (.Attribute o m apos) (e :: es) [] pos) (tSMeth C sp E ta t) := by
  refine ⟨fun pins s σ H Q I h => ?_⟩
  refine PySem.W.methodCall_KW (pl := pl) (thn (he.run pins s σ H _ I h) fun u s1 ⟨x, H1, I1, rx, ex, q⟩ => ?_) ht
  subst ex
  obtain rfl : u = Value.ref C := rx
  refine getsm_ok I1 r c fun s2 I2 => ?_
  refine PySem.W.callWith_K (first := []) (h₀ := X.base) I2.ok.mod.kin c.kp (thn (ha.run pos pins s2 σ H1 _ I2 q) fun us s3 ⟨vs, H2, I3, rv, q2⟩ => ⟨I3.kIn, ?_⟩) hst hpl
  exact wpAny_call (run_fnR (us := us) (vs := vs) F hr hx I3 rv q2)
theorem pe_smethK {pl : Sem Bool} (he : PE X o ta) (r : ClX.CRead X.K C (.type "type")) (c : SMet X.K C m p g) (F : FnOk X.prog X.w X.K X.mg X.base CX k g fd ps sp) (hr : Room k X.A) (hb : KBinds X.K fd ps ks gg gV) (hx : Passes CX X E) (hkw : PK X kws tk)
    (hall : (backToKw pos (keywordEach kws X.env)).all (·.1.isSome) = true := by rfl) (hks : (backToKw pos (keywordEach kws X.env)).filterMap (·.1) = ks := by rfl)
    (hpl : ((backTo pos (starEach [] X.env)).any (·.1) || (backToKw pos (keywordEach kws X.env)).any (·.1.isNone)) = false := by rfl)
    (ht : eval (.Call (.Attribute o m apos) [] kws pos) X.env = (do
      let ov ← eval o X.env
      standAt apos.atName
      let (f, first) ← holding [ov] (getMethod ov m pl)
      callWith pos f first (backTo pos (starEach [] X.env)) (backToKw pos (keywordEach kws X.env))) := by rfl) :
    PE X (.Call (.Attribute o m apos) [] kws pos) (tSMethK C sp gV E ta tk) := by
  refine ⟨fun pins s σ H Q I h => ?_⟩
  refine PySem.W.methodCall_KW (pl := pl) (thn (he.run pins s σ H _ I h) fun u s1 ⟨x, H1, I1, rx, ex, q⟩ => ?_) ht
  subst ex
  obtain rfl : u = Value.ref C := rx
  refine getsm_ok I1 r c fun s2 I2 => ?_
  refine PySem.W.callWith_KW0 (first := []) (h₀ := X.base) I2.ok.mod.kin c.kp hall (thn (hkw.run pos pins s2 σ H1 _ I2 q) fun ws s3 ⟨zs, H2, I3, rz, q2⟩ => ⟨I3.kIn, ?_⟩) hpl
  rw [hks]
  exact run_fnk (us := []) (vs := []) F hr hb hx I3 .nil rz q2
theorem pe_methK {pl : Sem Bool} (he : PE X o ta) (c : Cls X.K C) (hm : Meth X.K C m g) (F : FnOk X.prog X.w X.K X.mg X.base CX k g fd ps sp) (hr : Room k X.A) (hb : KBinds X.K fd ps ks gg gV) (hx : Passes CX X E) (hkw : PK X kws tk)
    (hall : (backToKw pos (keywordEach kws X.env)).all (·.1.isSome) = true := by rfl) (hks : (backToKw pos (keywordEach kws X.env)).filterMap (·.1) = ks := by rfl)
    (hpl : ((backTo pos (starEach [] X.env)).any (·.1) || (backToKw pos (keywordEach kws X.env)).any (·.1.isNone)) = false := by rfl)
    (ht : eval (.Call (.Attribute o m apos) [] kws pos) X.env = (do
      let ov ← eval o X.env
      standAt apos.atName
      let (f, first) ← holding [ov] (getMethod ov m pl)
      callWith pos f first (backTo pos (starEach [] X.env)) (backToKw pos (keywordEach kws X.env))) := by rfl) :
    PE X (.Call (.Attribute o m apos) [] kws pos) (tMethK C m sp gV E ta tk) := by
  refine ⟨fun pins s σ H Q I h => ?_⟩
  refine PySem.W.methodCall_KW (pl := pl) (thn (he.run pins s σ H _ I h) fun u s1 ⟨x, H1, I1, rx, a, dx, fs, ex, ea, l, q⟩ => ?_) ht
  subst ex
  obtain rfl : u = Value.ref a := rx
  refine getmeth_ok I1 ea c hm l ?_
  refine PySem.W.callWith_KW0 (first := [.ref a]) (h₀ := X.base) I1.ok.mod.kin hm.kp hall (thn (hkw.run pos pins s1 σ H1 _ I1 q) fun ws s3 ⟨zs, H2, I3, rz, q2⟩ => ⟨I3.kIn, ?_⟩) hpl
  rw [hks]
  exact run_fnk (us := [.ref a]) (vs := [.ref a]) F hr hb hx I3 (.cons rfl .nil) rz q2
end

/-! x op y, both own instances of one class -/
def rOwnI (K : PySem.W.Frag) (C : Addr) (sp : Sp) (E : XK) : R2 := fun x y H Q => ∃ (p dx : Addr) (fs : List (Str × V)) (q dy : Addr) (gs : List (Str × V)), x = .ref p ∧ y = .ref q ∧ H p = some (.ins C dx fs) ∧ H q = some (.ins C dy gs) ∧ sp [x, y] H Q E
theorem op_ownI {X : Cx} {CX : CXT} {C g : Addr} {n : Nat} {sp : Sp} {E : XK} {op : CmpOp} (hop : ∀ a b, compareOp op a b = richCompare op a b) (hs : PySem.W.findIn X.K (.ref C) (cmpInfo op).2.1 = some (some (.ref g))) (hf : PySem.W.isFn X.K (.ref g) = true) (first : PySem.W.notFirst X.K C (.ref C) = true)
    (F : FnR X.prog X.w X.K X.mg X.base CX n g sp) (room : Room n X.A) (hx : Passes CX X E) : OpR X (compareOp op) (rOwnI X.K C sp E) := by
  intro pins s σ H x y v u Q I rx ry told
  obtain ⟨p, dx, fs, q, dy, gs, rfl, rfl, hp, hq, want⟩ := told
  obtain rfl : v = Value.ref p := rx
  obtain rfl : u = Value.ref q := ry
  obtain ⟨o1, d1, J1, _⟩ := StX.insC_at (X := X) I (.inr ⟨dx, fs, hp⟩)
  obtain ⟨o2, d2, J2, _⟩ := StX.insC_at (X := X) I (.inr ⟨dy, gs, hq⟩)
  obtain ⟨m, hF⟩ := I.fr
  rw [hop]
  refine PySem.W.cmp_K (op := op) (tb := .ref C) room.units0 hF I.ok.mod.kin J1 J2.type first hs hf (wpAny_mono (wpAny_call (run_fnR (us := [.ref p, .ref q]) (vs := [.ref p, .ref q]) F room hx I (.cons rfl (.cons rfl .nil)) want)) (fun r s' got => ?_) fun _ _ same => same)
  obtain ⟨z, H', I', rz, end_⟩ := got
  exact SlX.cmpback rz ⟨z, H', I', rz, end_⟩
def spMEq (a : Ads) : Sp := fun vs H Q _ => ∃ (p q : Addr) (n m : Nat), vs = [.ref p, .ref q] ∧ ModeAt a H p n ∧ ModeAt a H q m ∧ ∀ H', Ex H H' → Q (.bl (decide (V.int n = V.int m))) H'
section
variable {K : PySem.W.Frag} {a : Ads} {σ : L2.St} {H H' : Hp} {ta tb te tf tm tn tg : TE} {t tk : TA} {E : XK} {p q c : Addr} {n m i k : Nat} {x y z v : V} {r : R2} {D : Ends} {tz : TS}
theorem rv_ownI {b c : Addr} {n m : Nat} (h1 : ModeAt a H b n) (h2 : ModeAt a H c m) : RV (rOwnI K a.f_Mode (fun vs H Q E => spMEq a (vs ++ []) H Q E) E) (.ref b) (.ref c) H (.bl (decide (V.int n = V.int m))) := fun H1 e Q k => by
  have m1 := h1.mono e
  have m2 := h2.mono e
  obtain ⟨dx, o1⟩ := id m1
  obtain ⟨dy, o2⟩ := id m2
  exact ⟨b, dx, _, c, dy, _, rfl, rfl, o1, o2, b, c, n, m, rfl, m1, m2, k⟩
theorem q_asgM {i : Nat} (h : EvM a te σ H n) (k : ∀ m H1, Ex H H1 → ModeAt a H1 m n → tz D (σ.set i (some (.ref m))) H1) : tSeq (tAsg te (gName i)) tz D σ H := h H (Ex.refl H) _ fun m H1 _ e hm => k m H1 e hm
theorem ev_eqMV (h1 : EvM a ta σ H n) (h2 : Ev tb σ H (.ref c)) (hm : ModeAt a H c n) : Ev (tOp (rOwnI K a.f_Mode (fun vs H Q E => spMEq a (vs ++ []) H Q E) E) ta tb) σ H (.bl true) := fun H1 e Q k =>
  h1 H1 e _ fun b H2 _ e2 m1 => h2 H2 (e.trans e2) _ fun H3 e3 => rv_ownI (K := K) (m1.mono e3) (hm.mono ((e.trans e2).trans e3)) H3 (Ex.refl _) _ fun H4 e4 => by
    rw [decide_eq_true rfl]
    exact k H4 ((e2.trans e3).trans e4)
theorem look_pat {u : V} : ([(("_number" : Str), u)] : List (Str × V)).lookup ("pattern" : Str) = none ∧ ([(("_number" : Str), u)] : List (Str × V)).lookup ("with_pattern" : Str) = none := by
  have n1 : (("pattern" : Str) == ("_number" : Str)) = false ∧ (("with_pattern" : Str) == ("_number" : Str)) = false := by decide +kernel
  simp only [List.lookup, n1.1, n1.2, and_self]
def gC1 (us ws : List V) : List V := match us, ws with | [x], [f] => [x, f] | _, _ => []
def gC1v (us ws : List Value) : List Value := match us, ws with | [x], [f] => [x, f] | _, _ => []
def gW1 (us ws : List V) : List V := match us, ws with | [x], [p, l] => [x, l, p] | _, _ => []
def gW1v (us ws : List Value) : List Value := match us, ws with | [x], [p, l] => [x, l, p] | _, _ => []
theorem ev_mpat (hp : Ev ta σ H (.ref p)) (hl : Ev tb σ H (.str (letS i))) (hm : ModeAt a H p n) (hn : n < 512) (hi : i < 3) : Ev (tMeth a.f_Mode "pattern" (spMPat K a) [] E ta (tCons tb tNil)) σ H (.int (patN n (wtN i) : Nat)) := fun H1 e Q k =>
  hp H1 e _ fun H2 e2 => by
    have m2 := hm.mono (e.trans e2)
    obtain ⟨dx, ho⟩ := id m2
    exact ⟨p, dx, _, rfl, ho, look_pat.1, hl H2 (e.trans e2) _ fun H3 e3 => ⟨p, n, .str (letS i), rfl, m2.mono e3, hn, .inl ⟨i, hi, rfl, fun H4 e4 => k H4 ((e2.trans e3).trans e4)⟩⟩⟩
theorem ev_mpatK (hp : Ev ta σ H (.ref p)) (hl : Ev tb σ H (.str (letS i))) (hm : ModeAt a H p n) (hn : n < 512) (hi : i < 3) : Ev (tMethK a.f_Mode "pattern" (spMPat K a) gC1 E ta (tCons tb tNil)) σ H (.int (patN n (wtN i) : Nat)) := fun H1 e Q k =>
  hp H1 e _ fun H2 e2 => by
    have m2 := hm.mono (e.trans e2)
    obtain ⟨dx, ho⟩ := id m2
    exact ⟨p, dx, _, rfl, ho, look_pat.1, hl H2 (e.trans e2) _ fun H3 e3 => ⟨p, n, .str (letS i), rfl, m2.mono e3, hn, .inl ⟨i, hi, rfl, fun H4 e4 => k H4 ((e2.trans e3).trans e4)⟩⟩⟩
theorem em_with (hp : Ev ta σ H (.ref p)) (hl : Ev tb σ H (.str (letS i))) (hc : Ev tn σ H (.int (k : Nat))) (hm : ModeAt a H p n) (hn : n < 512) (hi : i < 3) (hk : k < 8) : EvM a (tMeth a.f_Mode "with_pattern" (spMWith K a) [] E ta (tCons tb (tCons tn tNil))) σ H (wN n i k) := fun H1 e Q kk =>
  hp H1 e _ fun H2 e2 => by
    have m2 := hm.mono (e.trans e2)
    obtain ⟨dx, ho⟩ := id m2
    exact ⟨p, dx, _, rfl, ho, look_pat.2, hl H2 (e.trans e2) _ fun H3 e3 => hc H3 ((e.trans e2).trans e3) _ fun H4 e4 => ⟨p, n, .str (letS i), .int (k : Nat), rfl, (m2.mono e3).mono e4, hn, .inl ⟨i, k, hi, rfl, hk, rfl, fun q H5 hq e5 m5 => kk q H5 (fresh_back ((e2.trans e3).trans e4) hq) (((e2.trans e3).trans e4).trans e5) m5⟩⟩⟩
theorem em_withK (hp : Ev ta σ H (.ref p)) (hl : Ev tb σ H (.str (letS i))) (hc : Ev tn σ H (.int (k : Nat))) (hm : ModeAt a H p n) (hn : n < 512) (hi : i < 3) (hk : k < 8) : EvM a (tMethK a.f_Mode "with_pattern" (spMWith K a) gW1 E ta (tCons tn (tCons tb tNil))) σ H (wN n i k) := fun H1 e Q kk =>
  hp H1 e _ fun H2 e2 => by
    have m2 := hm.mono (e.trans e2)
    obtain ⟨dx, ho⟩ := id m2
    exact ⟨p, dx, _, rfl, ho, look_pat.2, hc H2 (e.trans e2) _ fun H3 e3 => hl H3 ((e.trans e2).trans e3) _ fun H4 e4 => ⟨p, n, .str (letS i), .int (k : Nat), rfl, (m2.mono e3).mono e4, hn, .inl ⟨i, k, hi, rfl, hk, rfl, fun q H5 hq e5 m5 => kk q H5 (fresh_back ((e2.trans e3).trans e4) hq) (((e2.trans e3).trans e4).trans e5) m5⟩⟩⟩
theorem ev_same2 {ns : List Int} (h1 : EvL ta σ H (ns.map V.int)) (h2 : ∀ H1, Ex H H1 → EvL tb σ H1 (ns.map V.int)) (short : ns.length ≤ 1000) : Ev (tCall (spSame 1) [] E (tCons ta (tCons tb tNil))) σ H (.bl true) := fun H1 e Q k =>
  h1 H1 e _ fun b H2 _ e2 x2 => h2 H2 (e.trans e2) H2 (Ex.refl _) _ fun c H3 _ e3 y3 => ⟨.ref b, .ref c, rfl, .seq false (show H3 b = _ from e3 _ _ x2) (show H3 c = _ from y3) rfl (by rw [List.length_map]; exact short) (fun j x y hx hy => by
    rw [hx] at hy
    cases hy
    rw [List.getElem?_map] at hx
    obtain ⟨z, _, rfl⟩ := Option.map_eq_some_iff.mp hx
    exact .int 0 z), fun H4 e4 => k H4 ((e2.trans e3).trans e4)⟩
end
theorem kb_pat {w : World} {K : PySem.W.Frag} {mg : Str → Option Value} {a : Ads} (T : Txt w K mg a) : KBinds K a.d_Mode_pattern ["self", "letter"] ["letter"] gC1v gC1 where
  to := fun s us ws X hl => by
    obtain ⟨oc, od, kV, doc, pm, an, cdv, ct, osl, e, lk, hcd⟩ := T.fn_Mode_pattern.ex
    rw [e]
    match us, ws, hl with
    | [x], [f], _ => exact .of_eq rfl
  rel := fun {vs us zs ws} r1 r2 => by
    cases r1 with
    | nil => exact .nil
    | cons h1 t1 =>
      cases t1 with
      | cons _ _ => exact .nil
      | nil =>
        cases r2 with
        | nil => exact .nil
        | cons h2 t2 =>
          cases t2 with
          | nil => exact .cons h1 (.cons h2 .nil)
          | cons _ _ => exact .nil
theorem kb_with {w : World} {K : PySem.W.Frag} {mg : Str → Option Value} {a : Ads} (T : Txt w K mg a) : KBinds K a.d_Mode_with_pattern ["self", "letter", "pattern"] ["pattern", "letter"] gW1v gW1 where
  to := fun s us ws X hl => by
    obtain ⟨oc, od, kV, doc, pm, an, cdv, ct, osl, e, lk, hcd⟩ := T.fn_Mode_with_pattern.ex
    rw [e]
    match us, ws, hl with
    | [x], [f, g], _ => exact .of_eq rfl
  rel := fun {vs us zs ws} r1 r2 => by
    cases r1 with
    | nil => exact .nil
    | cons h1 t1 =>
      cases t1 with
      | cons _ _ => exact .nil
      | nil =>
        cases r2 with
        | nil => exact .nil
        | cons h2 t2 =>
          cases t2 with
          | nil => exact .nil
          | cons h3 t3 =>
            cases t3 with
            | nil => exact .cons h1 (.cons h3 (.cons h2 .nil))
            | cons _ _ => exact .nil
section
variable {P : Program} {w : World} {K : PySem.W.Frag} {mg : Str → Option Value} {base : Heap} {a : Ads}
theorem ok_Mode_eq (T : Txt w K mg a) : FnOk P w K mg base CX0 1 a.f_ModeD_eqD a.d_ModeD_eqD ["self", "other"] (spMEq a) := by
  refine T.fn_ModeD_eqD.ok sc_ModeD_eqD (fun vs H Q E h => ?_) (fun cdv A outer s H vs Q E hr h => ?_)
  · obtain ⟨_, _, _, _, rfl, _⟩ := h
    rfl
  · obtain ⟨p, q, n, m, rfl, mp, mq, k⟩ := h
    refine ⟨_, (pss_one (ps_ret (pe_and (pe_callB call_isi (by rfl) T.b_isinstance PyProof.Rows.boot_isinstance (pa_cons (pv 1) (pa_cons (pe_glob (v := .ref a.f_Mode) rfl T.mg_Mode rfl) pa_nil))) (pe_one (pe_cmpR op_eq (pe_fld (pv 0) rfl) (pe_fld (pv 1) rfl) (nomark _)))))), ?_⟩
    obtain ⟨dx, hp⟩ := id mp
    obtain ⟨dy, hq⟩ := id mq
    exact s_ret (v := .bl (decide (V.int n = V.int m))) (ev_is (ev_andV (a := true) (ev_isi (ea_cons (ev_var rfl) (ea_cons ev_c ea_nil)) (.own _) (fun H' e' => tyx_mode T (mq.mono e')) T.is_Mode) fun _ => ev_op (ev_fld (ev_var rfl) hp T.c_Mode T.n_number_Mode (by simp [List.lookup]; rfl)) (ev_fld (ev_var rfl) hq T.c_Mode T.n_number_Mode (by simp [List.lookup]; rfl)) (rv_eq rfl)) (by rw [Bool.true_and])) fun H1 e1 => k H1 e1
end
end KZ
set_option Elab.async false
set_option linter.all false
set_option maxRecDepth 100000
set_option maxHeartbeats 4000000
namespace KZ
open PySem PySem.Spec PyProof.Rows L2 Evl
local macro_rules | `(tactic| walk_at "ev") => `(tactic| repeat' (first | exact ev_c | exact ev_var rfl | exact rv_I0 | refine' rv_I ?_ | refine' rv_eq ?_ | refine' rv_ne ?_ | refine' ev_op ?_ ?_ ?_ | exact ea_nil | refine' ea_cons ?_ ?_ | refine' et_test ?_ | refine' et_B ?_ | refine' et_not ?_ | refine' ev_notV ?_))

open PySem
/-! ### tuples of numbers, lists of such, as data -/
def tupD (ns : List Nat) : PyData := .tuple (ns.map fun (n : Nat) => .int (n : Int))
def numV (ns : List Nat) : List V := ns.map fun (n : Nat) => V.int (n : Int)
theorem dp_nums {K : PySem.W.Frag} {H : Hp} : ∀ ns : List Nat, DpAll K H (numV ns) (ns.map fun (n : Nat) => PyData.int (n : Int))
  | [] => .nil
  | n :: ns => .cons (.int _) (dp_nums ns)
theorem dp_tupN {K : PySem.W.Frag} {H : Hp} {p : Addr} {ns : List Nat} (h : SqT K H p (numV ns)) : Dp K H (.ref p) (tupD ns) := .tup h (dp_nums ns)
theorem eqv_nats : ∀ a b : List Nat, PyData.eqvAll (a.map fun (n : Nat) => PyData.int (n : Int)) (b.map fun (n : Nat) => PyData.int (n : Int)) = decide (a = b)
  | [], [] => by simp [PyData.eqvAll]
  | [], _ :: _ => by simp [PyData.eqvAll]
  | _ :: _, [] => by simp [PyData.eqvAll]
  | x :: a, y :: b => by
    have := eqv_nats a b
    simp only [List.map_cons, PyData.eqvAll, PyData.eqv, this]
    by_cases h : x = y <;> by_cases h2 : a = b <;> simp [h, h2]
    omega
theorem shaped_nums (a : List Nat) : SeqAt.shaped (.list (a.map fun (n : Nat) => .int (n : Int))) = true := by
  have lay : ∀ a : List Nat, PyData.canLayAll0 (a.map fun (n : Nat) => PyData.int (n : Int)) = true ∧ PyData.depthAll (a.map fun (n : Nat) => PyData.int (n : Int)) = 0 := by
    intro a
    induction a with
    | nil => exact ⟨rfl, rfl⟩
    | cons x a ih => simp [PyData.canLayAll0, PyData.canLay0, PyData.depthAll, PyData.depth, ih.1, ih.2]
  obtain ⟨h3, h4⟩ := lay a
  refine Bool.and_eq_true_iff.mpr ⟨by simp [PyData.canLay0, h3], decide_eq_true ?_⟩
  simp only [PyData.depth, h4]
  omega
theorem given_all {n : Nat} {v : Nat → V} : given n (fun _ => true) v = (List.range n).map v := by
  unfold given
  rw [List.filter_eq_self.mpr fun _ _ => rfl]
theorem ev_eqNums {K : PySem.W.Frag} {σ : L2.St} {H : Hp} {ta tb : TE} {ns : List Nat} (h1 : EvL ta σ H (numV ns)) (h2 : EvL tb σ H (numV ns)) : Ev (tOp (rEqD K) ta tb) σ H (.bl true) := ev_opLL h1 h2 fun p q H1 hp hq _ H2 e2 Q k =>
  ⟨.list (ns.map fun (n : Nat) => .int (n : Int)), .list (ns.map fun (n : Nat) => .int (n : Int)), .lst (sq_of (e2 _ _ hp)) (dp_nums ns), .lst (sq_of (e2 _ _ hq)) (dp_nums ns), shaped_nums ns, shaped_nums ns, by
    rw [show PyData.eqv (.list (ns.map fun (n : Nat) => PyData.int (n : Int))) (.list (ns.map fun (n : Nat) => PyData.int (n : Int))) = PyData.eqvAll (ns.map fun (n : Nat) => PyData.int (n : Int)) (ns.map fun (n : Nat) => PyData.int (n : Int)) by simp [PyData.eqv], eqv_nats, decide_eq_true rfl]
    exact k H2 (Ex.refl H2)⟩
def restJ (i : Nat) : List Nat := (List.range 3).filter fun j => decide (j ≠ i)
theorem rest_at {i k : Nat} {x : V} (h : ((restJ i).map fun j => V.str (letS j))[k]? = some x) : ∃ j, (restJ i)[k]? = some j ∧ j < 3 ∧ j ≠ i ∧ x = .str (letS j) := by
  rw [List.getElem?_map] at h
  obtain ⟨j, hj, rfl⟩ := Option.map_eq_some_iff.mp h
  have m := List.mem_of_getElem? hj
  obtain ⟨m1, m2⟩ := List.mem_filter.mp m
  exact ⟨j, hj, List.mem_range.mp m1, of_decide_eq_true m2, rfl⟩
theorem let_sign : ∀ i : Nat, i < 3 → atI ("rwx" : Str).cps.toList ((i : Nat) : Int) = some (("rwx" : Str).cps.toList.getD i 0) ∧ (⟨#[("rwx" : Str).cps.toList.getD i 0]⟩ : Str) = letS i ∧ ("rwx" : Str).cps[i]? = some (("rwx" : Str).cps.toList.getD i 0) := by
  have h : ((List.range 3).all fun (i : Nat) => decide (atI ("rwx" : Str).cps.toList ((i : Nat) : Int) = some (("rwx" : Str).cps.toList.getD i 0) ∧ (⟨#[("rwx" : Str).cps.toList.getD i 0]⟩ : Str) = letS i ∧ ("rwx" : Str).cps[i]? = some (("rwx" : Str).cps.toList.getD i 0))) = true := by decide +kernel
  exact fun i hi => of_decide_eq_true (all_nat h i hi)
theorem let_inj : ∀ i : Nat, i < 3 → ∀ j : Nat, j < 3 → (decide (V.str (letS j) = V.str (letS i))) = decide (j = i) := by
  have h : ((List.range 3).all fun (i : Nat) => (List.range 3).all fun (j : Nat) => decide (decide (letS j = letS i) = decide (j = i))) = true := by decide +kernel
  intro i hi j hj
  have := of_decide_eq_true (all_nat (all_nat h i hi) j hj)
  rw [← this]
  exact decide_eq_decide.mpr ⟨fun z => by injection z, fun z => by rw [z]⟩
theorem rwx_size : ("rwx" : Str).cps.size = 3 ∧ ("rwx" : Str).length ≤ 100000 := by decide +kernel
def spRight : Sp := fun vs H Q _ => ∃ n i c : Nat, vs = [.int n, .int i, .int c] ∧ n < 512 ∧ i < 3 ∧ c < 8 ∧ ∀ H', Ex H H' → Q (.bl true) H'
section
variable {P : Program} {w : World} {K : PySem.W.Frag} {mg : Str → Option Value} {base : Heap} {a : Ads}
theorem ok_lright (T : Txt w K mg a) : FnOk P w K mg base CX0 9 a.f__law_right a.d__law_right ["_law_number", "_law_at", "_law_cast"] spRight := by
  have G__law_pattern : FnOk P w K mg base CX0 8 _ _ _ _ := (ok_lpattern T).mono (by decide)
  have G__law_with : FnOk P w K mg base CX0 8 _ _ _ _ := (ok_lwith T).mono (by decide)
  have G__law_same : FnOk P w K mg base CX0 8 _ _ _ (spSame 1) := (show FnOk P w K mg base CX0 2 _ _ _ (spSame 1) from ok_sameG T 2).mono (by decide)
  have G_Mode_pattern : FnOk P w K mg base (L2.CX P w) 8 _ _ _ _ := (ok_MPattern T).mono (by decide)
  have G_Mode_with_pattern : FnOk P w K mg base (L2.CX P w) 8 _ _ _ _ := (ok_MWith T).mono (by decide)
  have G_Mode_init : FnOk P w K mg base CX0 7 _ _ _ _ := (ok_Mode_init T).mono (by decide)
  have G_Mode_number : FnOk P w K mg base CX0 7 _ _ _ _ := (ok_Mode_number T).mono (by decide)
  have G_Mode_eq : FnOk P w K mg base CX0 8 _ _ _ _ := (ok_Mode_eq T).mono (by decide)
  refine T.fn__law_right.ok sc__law_right (fun vs H Q E h => ?_) (fun cdv A outer s H vs Q E hr h => ?_)
  · obtain ⟨_, _, _, rfl, _⟩ := h
    rfl
  · obtain ⟨n, i, c, rfl, hn, hi, hc, k⟩ := h
    have hrc : Room 8 _ := hr
    have hrm : Room (7 + 1) _ := hr
    refine ⟨_, (pss_cons (ps_set (i := 3) sc__law_right.nd rfl (Or.inr rfl) (pe_make T.mk_Mode G_Mode_init hrm rfl T.mg_Mode (bd_ModeD_initD T) .nil pass0 (pa_cons (pv 0) pa_nil)))
    (pss_cons (ps_set (i := 4) sc__law_right.nd rfl (Or.inr rfl) (pe_ix ix_str pe_str (pv 1) (fun _ _ => rfl)))
    (pss_cons (ps_set (i := 5) sc__law_right.nd rfl (Or.inl rfl) (pe_call G__law_pattern hrc rfl T.mg__law_pattern T.fn__law_pattern.kp (bd__law_pattern T) .nil pass0 (pa_cons (pv 0) (pa_cons (pv 1) pa_nil))))
    (pss_cons (ps_if (pt_not (pt_val (pe_call G__law_same hrc rfl T.mg__law_same T.fn__law_same.kp (bd__law_same T) .nil pass0 (pa_cons (pe_lst (pa_cons (pe_meth (pv 3) T.c_Mode T.m_Mode_pattern G_Mode_pattern hrc (bd_Mode_pattern T) .nil passL (pa_cons (pv 4) pa_nil)) (pa_cons (pe_methK (pv 3) T.c_Mode T.m_Mode_pattern G_Mode_pattern hrc (kb_pat T) passL (pk_cons (pv 4) pk_nil)) pa_nil))) (pa_cons (pe_lst (pa_cons (pv 5) (pa_cons (pv 5) pa_nil))) pa_nil))))) (pss_one (ps_ret pe_bl)) pss_nil)
    (pss_cons (ps_set (i := 6) sc__law_right.nd rfl (Or.inr rfl) (pe_meth (pv 3) T.c_Mode T.m_Mode_with_pattern G_Mode_with_pattern hrc (bd_Mode_with_pattern T) .nil passL (pa_cons (pv 4) (pa_cons (pv 2) pa_nil))))
    (pss_cons (ps_if (pt_not (pt_val (pe_call G__law_same hrc rfl T.mg__law_same T.fn__law_same.kp (bd__law_same T) .nil pass0 (pa_cons (pe_lst (pa_cons (pe_prop (pv 6) T.c_Mode T.p_Mode_number (G_Mode_number) hrm (bd_Mode_number T) .nil pass0 rfl) (pa_cons (pe_prop (pv 3) T.c_Mode T.p_Mode_number (G_Mode_number) hrm (bd_Mode_number T) .nil pass0 rfl) pa_nil))) (pa_cons (pe_lst (pa_cons (pe_call G__law_with hrc rfl T.mg__law_with T.fn__law_with.kp (bd__law_with T) .nil pass0 (pa_cons (pv 0) (pa_cons (pv 1) (pa_cons (pv 2) pa_nil)))) (pa_cons (pv 0) pa_nil))) pa_nil))))) (pss_one (ps_ret pe_bl)) pss_nil)
    (pss_cons (ps_if (PW.pt (pw_or (pt_not (pt_cmpR (op_ownI (by intro _ _; rfl) T.m_ModeD_eqD.at_ T.m_ModeD_eqD.fn T.nf_Mode (G_Mode_eq.raw (bd_ModeD_eqD T) .nil) hrc pass0) (pe_methK (pv 3) T.c_Mode T.m_Mode_with_pattern G_Mode_with_pattern hrc (kb_with T) passL (pk_cons (pv 2) (pk_cons (pv 4) pk_nil))) (pv 6) (nomark _))) (pw_or1 (pt_cmpR op_ne (pe_meth (pv 6) T.c_Mode T.m_Mode_pattern G_Mode_pattern hrc (bd_Mode_pattern T) .nil passL (pa_cons (pv 4) pa_nil)) (pv 2) (nomark _))))) (pss_one (ps_ret pe_bl)) pss_nil)
    (pss_cons (ps_setLc (i := 7) (own := [("_law_other", 8)]) (g := gName 8) rfl sc__law_right.nd rfl rfl (sw_true rfl rfl rfl (by decide +kernel)) (pi_str pe_str) (blkOk_by (own := [("_law_other", 8)]) (N := n__law_right) (sc := defScope s__law_right) (by decide +kernel)) (fun _ _ _ _ _ => (pg_name (i := 8) sc__law_right.nd rfl (Or.inl rfl))) (fun _ _ _ _ _ => (pts_one (pt_cmpR op_ne (pv 8) (pv 4) (nomark _)))) (fun _ _ _ _ _ => (pv 8)))
    (pss_one (ps_ret (pe_cmpR (op_eqD hr.units) (pe_lc (own := [("_law_other", 8)]) (g := gName 8) rfl sc__law_right.nd (pi_list (pv 7)) (blkOk_by (own := [("_law_other", 8)]) (N := n__law_right) (sc := defScope s__law_right) (by decide +kernel)) (fun _ _ _ _ _ => (pg_name (i := 8) sc__law_right.nd rfl (Or.inl rfl))) (fun _ _ _ _ _ => pts_nil) (fun _ _ _ _ _ => (pe_meth (pv 6) T.c_Mode T.m_Mode_pattern G_Mode_pattern hrc (bd_Mode_pattern T) .nil passL (pa_cons (pv 8) pa_nil)))) (pe_lc (own := [("_law_other", 8)]) (g := gName 8) rfl sc__law_right.nd (pi_list (pv 7)) (blkOk_by (own := [("_law_other", 8)]) (N := n__law_right) (sc := defScope s__law_right) (by decide +kernel)) (fun _ _ _ _ _ => (pg_name (i := 8) sc__law_right.nd rfl (Or.inl rfl))) (fun _ _ _ _ _ => pts_nil) (fun _ _ _ _ _ => (pe_meth (pv 3) T.c_Mode T.m_Mode_pattern G_Mode_pattern hrc (bd_Mode_pattern T) .nil passL (pa_cons (pv 8) pa_nil)))) (nomark _)))))))))))), ?_⟩
    obtain ⟨l1, l2, _⟩ := let_sign i hi
    obtain ⟨w1, w2, w3⟩ := with_law i hi c hc n hn
    refine q_asgM (a := a) (n := n) (em_mode (ev_var rfl) hn) fun mo H1 e1 hm => ?_
    refine q_asg (v := .str (letS i)) (ev_is (ev_op ev_c (ev_var rfl) (rv_ixS rwx_size.2 l1)) (congrArg V.str l2)) fun H2 e2 => ?_
    refine q_asg (v := .int (patN n (wtN i) : Nat)) (ev_call (vs := [.int (n : Nat), .int (i : Nat)]) (ea_cons (ev_var rfl) (ea_cons (ev_var rfl) ea_nil)) fun H3 e Q q E => ⟨n, i, rfl, hn, hi, q⟩) fun H3 e3 => ?_
    have hm3 := (hm.mono e2).mono e3
    refine q_when (b := false) (et_not (a := true) (et_B (ev_same2 (ns := [(patN n (wtN i) : Nat), (patN n (wtN i) : Nat)]) (el_lst (vs := [.int (patN n (wtN i) : Nat), .int (patN n (wtN i) : Nat)]) (ea_cons (ev_mpat (K := K) (ev_var rfl) (ev_var rfl) hm3 hn hi) (ea_cons (ev_mpatK (K := K) (ev_var rfl) (ev_var rfl) hm3 hn hi) ea_nil)) (by show 2 ≤ 100000; decide)) (fun _ _ => el_lst (vs := [.int (patN n (wtN i) : Nat), .int (patN n (wtN i) : Nat)]) (ea_cons (ev_var rfl) (ea_cons (ev_var rfl) ea_nil)) (by show 2 ≤ 100000; decide)) (by show 2 ≤ 1000; decide)))) (fun z => nomatch z) fun _ H4 e4 => ?_
    have hm4 := hm3.mono e4
    refine q_asgM (a := a) (n := wN n i c) (em_with (K := K) (ev_var rfl) (ev_var rfl) (ev_var rfl) hm4 hn hi hc) fun la H5 e5 hla => ?_
    have hm5 := hm4.mono e5
    obtain ⟨dm, hom⟩ := id hm5
    obtain ⟨dl, hol⟩ := id hla
    refine q_when (b := false) (et_not (a := true) (et_B (ev_same2 (ns := [(wN n i c : Nat), (n : Nat)]) (el_lst (vs := [.int (wN n i c : Nat), .int (n : Nat)]) (ea_cons (ev_prop (ev_var rfl) hol (spv_get (v := .int (wN n i c : Nat)) hol (by simp [List.lookup]))) (ea_cons (ev_prop (ev_var rfl) hom (spv_get (v := .int (n : Nat)) hom (by simp [List.lookup]))) ea_nil)) (by show 2 ≤ 100000; decide)) (fun _ _ => el_lst (vs := [.int (wN n i c : Nat), .int (n : Nat)]) (ea_cons (ev_call (vs := [.int (n : Nat), .int (i : Nat), .int (c : Nat)]) (ea_cons (ev_var rfl) (ea_cons (ev_var rfl) (ea_cons (ev_var rfl) ea_nil))) fun H6 e Q q E => ⟨n, i, c, rfl, hn, hi, hc, q⟩) (ea_cons (ev_var rfl) ea_nil)) (by show 2 ≤ 100000; decide)) (by show 2 ≤ 1000; decide)))) (fun z => nomatch z) fun _ H6 e6 => ?_
    have hm6 := hm5.mono e6
    have hla6 := hla.mono e6
    refine q_when (b := false) (et_is (et_or (et_not (a := true) (et_test (ev_eqMV (K := K) (em_withK (K := K) (ev_var rfl) (ev_var rfl) (ev_var rfl) hm6 hn hi hc) (ev_var rfl) hla6))) fun _ => et_test (ev_op (ev_mpat (K := K) (ev_var rfl) (ev_var rfl) hla6 w2 hi) (ev_var rfl) (rv_ne rfl))) (by rw [w3]; simp)) (fun z => nomatch z) fun _ H7 e7 => ?_
    refine q_asgL (xs := (restJ i).map fun j => V.str (letS j)) (el_is (el_lcS (s := "rwx") (fun j => decide (j ≠ i)) (fun j => V.str (letS j)) ev_c (by rw [rwx_size.1]; decide) (fun _ => rfl) (fun j ch H8 e8 hch => ?_) (fun j ch H8 e8 hch _ => ?_)) (by rw [rwx_size.1]; rfl)) fun rs H8 _ e8 h8 => ?_
    · have hj : j < 3 := by
        have := (Array.getElem?_eq_some_iff.mp hch).1
        rw [rwx_size.1] at this
        exact this
      obtain ⟨_, s2, s3⟩ := let_sign j hj
      rw [s3] at hch
      cases hch
      refine et_is (et_test (ev_op (ev_is (ev_var rfl) (congrArg V.str s2)) (ev_var rfl) (rv_ne rfl))) ?_
      rw [let_inj i hi j hj, ← decide_not]
    · have hj : j < 3 := by
        have := (Array.getElem?_eq_some_iff.mp hch).1
        rw [rwx_size.1] at this
        exact this
      obtain ⟨_, s2, s3⟩ := let_sign j hj
      rw [s3] at hch
      cases hch
      exact ev_is (ev_var rfl) (congrArg V.str s2)
    have hm8 := (hm6.mono e7).mono e8
    have hla8 := (hla6.mono e7).mono e8
    have lenR : ((restJ i).map fun j => V.str (letS j)).length ≤ 40000 := by
      rw [List.length_map]
      have := List.length_filter_le (fun j => decide (j ≠ i)) (List.range 3)
      rw [List.length_range] at this
      unfold restJ
      omega
    have nums : given ((restJ i).map fun j => V.str (letS j)).length (fun _ => true) (fun k => V.int (patN n (wtN (((restJ i)[k]?).getD 0)) : Nat)) = numV ((restJ i).map fun j => patN n (wtN j)) := by
      rw [given_all]
      unfold numV
      rw [List.length_map, List.map_map]
      apply List.ext_getElem
      · simp
      · intro j a1 a2
        simp at a1 a2
        simp [a1]
    refine s_ret (v := .bl true) (ev_eqNums (K := K) (ns := (restJ i).map fun j => patN n (wtN j)) (el_is (el_lcL (K := K) (xs := (restJ i).map fun j => V.str (letS j)) (fun _ => true) (fun k => V.int (patN n (wtN (((restJ i)[k]?).getD 0)) : Nat)) (ev_var rfl) (sq_of h8) lenR (fun _ => rfl) (fun _ _ _ _ _ => et_yes) (fun k' x H9 e9 hx _ => ?_)) nums) (el_is (el_lcL (K := K) (xs := (restJ i).map fun j => V.str (letS j)) (fun _ => true) (fun k => V.int (patN n (wtN (((restJ i)[k]?).getD 0)) : Nat)) (ev_var rfl) (sq_of h8) lenR (fun _ => rfl) (fun _ _ _ _ _ => et_yes) (fun k' x H9 e9 hx _ => ?_)) nums)) fun H9 e9 => k H9 ((((((((e1.trans e2).trans e3).trans e4).trans e5).trans e6).trans e7).trans e8).trans e9)
    · obtain ⟨j, hj, hj3, ne, rfl⟩ := rest_at hx
      rw [hj]
      exact ev_is (ev_mpat (K := K) (i := j) (ev_var rfl) (ev_var rfl) (hla8.mono e9) w2 hj3) (by rw [other_law i hi j hj3 (Ne.symm ne) c hc n hn]; rfl)
    · obtain ⟨j, hj, hj3, ne, rfl⟩ := rest_at hx
      rw [hj]
      exact ev_mpat (K := K) (i := j) (ev_var rfl) (ev_var rfl) (hm8.mono e9) hn hj3
end
end KZ
set_option Elab.async false
set_option linter.all false
set_option maxRecDepth 100000
set_option maxHeartbeats 4000000
namespace KZ
open PySem PySem.Spec PyProof.Rows L2 Evl
local macro_rules | `(tactic| walk_at "ev") => `(tactic| repeat' (first | exact ev_c | exact ev_var rfl | exact rv_I0 | refine' rv_I ?_ | refine' rv_eq ?_ | refine' rv_ne ?_ | refine' ev_op ?_ ?_ ?_ | exact ea_nil | refine' ea_cons ?_ ?_ | refine' et_test ?_ | refine' et_B ?_ | refine' et_not ?_ | refine' ev_notV ?_))

open PySem
/-! ### the caught error: isinstance, its field -/
def rIsD (K : PySem.W.Frag) (D a : Addr) (cls : Value) (d : Option Addr) : List V → Hp → VK → Prop := fun xs H Q => ∃ (c : V) (cv : Value) (b : Bool) (dd : Addr) (fs : List (Str × V)), xs = [.ref a, c] ∧ (∀ u, RelV c u → u = cv) ∧ cls = .ref D ∧ d = some dd ∧ H dd = some (.xd fs) ∧ PySem.W.kitOne K (.ref D) cv = some b ∧ Q (.bl b) H
def tPartE (D a : Addr) (cls : Value) (d : Option Addr) (te : TE) : TE := fun σ H Q => te σ H fun x H1 => x = .ref a ∧ cls = .ref D ∧ ∃ (dd : Addr) (v : V), d = some dd ∧ H1 dd = some (.xd [(("part" : Str), v)]) ∧ Q v H1
section
variable {X : Cx} {a D dd : Addr} {oe : Obj} {cls : Value} {d : Option Addr} {pn pins : List (Addr × Obj)} {σ : L2.St} {H : Hp} {s : Shared} {e : Expr} {te : TE} {pos : Pos} {fs : List (Str × V)}
theorem inst_xd (I : Inv (X.suite a ((a, oe) :: pn)) pins σ H s) (hz : Zc (.ref D) (some dd) oe) (hf : ∃ vs, oe.data = .fields vs) (hd : H dd = some (.xd fs)) : ∃ od, PySem.W.InstAt s.heap a oe D (some od) ∧ s.heap.get? dd = some od := by
  obtain ⟨hget, _⟩ := I.pin (a, oe) (List.mem_append_left _ List.mem_cons_self)
  obtain ⟨vs, hv⟩ := hf
  have hx : ObjOk X.prog X.w H s.heap dd (.xd fs) := I.hok dd _ hd
  obtain ⟨mA, hns, _⟩ := hx
  obtain ⟨od, ho, _⟩ := lookIn_ns hns
  exact ⟨od, ⟨hget, hz.1, by unfold PySem.W.notCls; rw [hv] <;> rfl, by rw [hz.2]; exact ho⟩, ho⟩
theorem call_isD (C : ExcC X.K D) (hcl : (PySem.W.clsIn X.K D).isSome = true) (hz : Zc cls d oe) (hf : ∃ vs, oe.data = .fields vs) : CallR (X.suite a ((a, oe) :: pn)) (.builtin "isinstance") (rIsD X.K D a cls d) := by
  intro pins s σ H xs us Q I r h
  obtain ⟨c, cv, b, dd, fs, rfl, hcv, rfl, rfl, hd, e, q⟩ := h
  cases r with
  | cons rx rr =>
    cases rr with
    | cons rt rr =>
      cases rr
      cases rx
      have ec := hcv _ rt
      subst ec
      obtain ⟨od, J, _⟩ := inst_xd I hz hf hd
      exact PySem.W.kia_one (PySem.W.kitx_exc hcl C.hg C.hk C.hs C.ha C.hn C.ht C.hm) I.kIn J e (fun z => nomatch z) fun tk => ⟨.bl b, H, I.kept (t' := tk) fun _ _ z => z, rfl, q⟩
theorem pe_part (C : ExcC X.K D) (no : PySem.W.findIn X.K (.ref D) "part" = some none) (hz : Zc cls d oe) (hf : ∃ vs, oe.data = .fields vs) (he : PE (X.suite a ((a, oe) :: pn)) e te) (hb : attributeBase e "part" X.env (eval e X.env) = eval e X.env := by rfl) :
    PE (X.suite a ((a, oe) :: pn)) (.Attribute e "part" pos) (tPartE D a cls d te) where
  run := fun pins s σ H Q I h => by
    refine attr_of hb (thn (he.run pins s σ H _ I h) fun u s1 hh => ?_)
    obtain ⟨x, H1, I1, rx, rfl, rfl, dd, v, rfl, ea, q⟩ := hh
    obtain rfl : u = Value.ref a := rx
    obtain ⟨hget, _⟩ := I1.pin (a, oe) (List.mem_append_left _ List.mem_cons_self)
    obtain ⟨vs, hv⟩ := hf
    have hx : ObjOk X.prog X.w H1 s1.heap dd (.xd [(("part" : Str), v)]) := I1.hok dd _ ea
    obtain ⟨mA, hns, rel⟩ := hx
    obtain ⟨od, ho, looks⟩ := lookIn_ns hns
    have l : List.lookup ("part" : Str) [(("part" : Str), v)] = some v := by simp [List.lookup]
    obtain ⟨w', hw, rw'⟩ := RelO.some_of (v := v) (o := mA "part") (by rw [← l]; exact rel "part")
    have J : PySem.W.InstAt s1.heap a oe D (some od) := ⟨hget, hz.1, by unfold PySem.W.notCls; rw [hv] <;> rfl, by rw [hz.2]; exact ho⟩
    exact HandSPX.exc_get I1.kIn J C.hg C.hk C.hs (PySem.W.findObj_own C.hd no rfl (by rw [looks, hw])) (handed_of rw') ⟨v, H1, I1.tok _, rw', q⟩
end
end KZ
set_option Elab.async false
set_option linter.all false
set_option maxRecDepth 100000
set_option maxHeartbeats 4000000
namespace KZ
open PySem PySem.Spec PyProof.Rows L2 Evl
local macro_rules | `(tactic| walk_at "ev") => `(tactic| repeat' (first | exact ev_c | exact ev_var rfl | exact rv_I0 | refine' rv_I ?_ | refine' rv_eq ?_ | refine' rv_ne ?_ | refine' ev_op ?_ ?_ ?_ | exact ea_nil | refine' ea_cons ?_ ?_ | refine' et_test ?_ | refine' et_B ?_ | refine' et_not ?_ | refine' ev_notV ?_))

open PySem LamX
theorem Takes.len {X : Cx} {W : WX} (t : Takes X W) : Takes X (fun c d σ H => σ.length = X.N.length → W c d σ H) := fun u s' ⟨a, B, sI, pins, σ, H, cls, d, e, I, nb, up, sky, na, os, ag, w⟩ => t u s' ⟨a, B, sI, pins, σ, H, cls, d, e, I, nb, up, sky, na, os, ag, w I.len⟩
theorem op_neE {X : Cx} {K : PySem.W.Frag} (h : X.K = K) (hu : X.A.units + 64 < cLine) : OpR X (compareOp .NotEq) (rNeD K) := by
  subst h
  exact op_neD hu
theorem cl_of {K : PySem.W.Frag} {D : Addr} (C : ExcC K D) : (PySem.W.clsIn K D).isSome = true := by
  obtain ⟨cd, hc, _⟩ := PySem.W.any_some C.hd
  rw [hc]
  rfl
section
variable {K : PySem.W.Frag} {σ : L2.St} {H : Hp} {te : TE} {D a0 dd : Addr} {cls cv : Value} {d : Option Addr} {c : V} {b : Bool} {s : Str} {fs : List (Str × V)}
theorem ev_isD (hv : σ[1]? = some (some (.ref a0))) (hc : Ev te σ H c) (rel : ∀ u, RelV c u → u = cv) (h1 : cls = .ref D) (h2 : d = some dd) (hx : H dd = some (.xd fs)) (e : PySem.W.kitOne K (.ref D) cv = some b) : Ev (tCB (rIsD K D a0 cls d) (tCons (tVar 1) (tCons te tNil))) σ H (.bl b) := fun H1 e1 Q q =>
  ⟨.ref a0, hv, hc H1 e1 _ fun H2 e2 => ⟨c, cv, b, dd, fs, rfl, rel, h1, h2, e2 _ _ (e1 _ _ hx), e, q H2 e2⟩⟩
theorem ev_partD (hv : σ[1]? = some (some (.ref a0))) (h1 : cls = .ref D) (h2 : d = some dd) (hx : H dd = some (.xd [(("part" : Str), .str s)])) : Ev (tPartE D a0 cls d (tVar 1)) σ H (.str s) := fun H1 e1 Q q =>
  ⟨.ref a0, hv, rfl, h1, dd, .str s, h2, e1 _ _ hx, q H1 (Ex.refl H1)⟩
theorem rv_neMarks {p q : Addr} (h1 : H p = some (.lst [.bl true, .bl false, .bl true])) (h2 : H q = some (.lst [.bl true, .bl false, .bl true])) : RV (rNeD K) (.ref p) (.ref q) H (.bl false) := fun H1 e Q k =>
  ⟨.list [.bool true, .bool false, .bool true], .list [.bool true, .bool false, .bool true], .lst (sq_of (e _ _ h1)) (.cons (.bl _) (.cons (.bl _) (.cons (.bl _) .nil))), .lst (sq_of (e _ _ h2)) (.cons (.bl _) (.cons (.bl _) (.cons (.bl _) .nil))), by decide +kernel, by decide +kernel, by
    rw [show PyData.eqv (.list [.bool true, .bool false, .bool true]) (.list [.bool true, .bool false, .bool true]) = true by decide +kernel]
    exact k H1 (Ex.refl H1)⟩
end
/-- what the answer is of what is asked: a BadMode with the part s -/
def HeardX (a : Ads) (Q : VK) : XK := fun cls d H' => cls = .ref a.x_BadMode ∧ ∃ (dd : Addr) (s : Str), d = some dd ∧ H' dd = some (.xd [(("part" : Str), .str s)]) ∧ ∀ t H'', H' t = none → Ex H' H'' → H'' t = some (.tup [.str "mode", .str s]) → Q (.ref t) H''
def THeard (a : Ads) : (XK → Hp → VK → Prop) → Hp → VK → Prop := fun tl H Q => tl (HeardX a Q) H fun x H1 => [V.str "told", x].length ≤ sizeLine ∧ ∀ p, H1 p = none → Q (.ref p) (upd H1 p (.tup [.str "told", x]))
theorem heard_gives {X : Cx} {a : Ads} {q : Str} {cdv : Value} (T : Txt X.w X.K X.mg a) (hu : X.A.units + 100 < cLine) : GivesTo X n__law_heard "_law_heard" (defScope s__law_heard) a.f__law_heard cdv (defBody s__law_heard) "_law_ask" q (THeard a) := by
  intro f c' s H Q tl act hc h
  refine ⟨_, pss_cons (ps_try_as (X := (cxOf C8.CX0 X.prog X.w X.K X.mg X.base n__law_heard "_law_heard" (defScope s__law_heard) a.f__law_heard cdv X.A X.stack s H C8.E0).nox) (c := .ref a.x_ModesError) (i := 1)
      (tb := fun W D σ H => ∃ Ech : XK, (∀ cls d σ' H', Ech cls d H' → σ'.length = 3 → W cls d σ' H') ∧ σ[0]? = some (some (.ref f)) ∧ H c' = some (CodeO c' q) ∧ tl Ech H fun x H1 => [V.str "told", x].length ≤ sizeLine ∧ ∀ p, H1 p = none → D.rt (.ref p) (upd H1 p (.tup [.str "told", x])))
      rfl rfl sc__law_heard.nd rfl rfl ⟨rfl, by decide, .inl T.mg_ModesError⟩ L2.takes0 (fun W pn xe tk _ => ?body) (fun a0 oe cls d pn hz hf => (pss_cons (ps_set (i := 2) sc__law_heard.nd rfl (Or.inl rfl) (pe_lst (pa_cons (pe_callB (call_isD T.ec_BadMode (cl_of T.ec_BadMode) hz hf) (by rfl) T.b_isinstance PyProof.Rows.boot_isinstance (pa_cons (pv 1) (pa_cons (pe_glob (v := .ref a.x_BadInput) rfl T.mg_BadInput rfl) pa_nil))) (pa_cons (pe_callB (call_isD T.ec_BadMode (cl_of T.ec_BadMode) hz hf) (by rfl) T.b_isinstance PyProof.Rows.boot_isinstance (pa_cons (pv 1) (pa_cons (pe_glob (v := .ref a.x_NoWay) rfl T.mg_NoWay rfl) pa_nil))) (pa_cons (pe_callB (call_isD T.ec_BadMode (cl_of T.ec_BadMode) hz hf) (by rfl) T.b_isinstance PyProof.Rows.boot_isinstance (pa_cons (pv 1) (pa_cons (pe_bltn (v := .ty "ValueError") (by rfl) T.b_ValueError PyProof.Rows.Boot.«ValueError» rfl) pa_nil))) pa_nil)))))
    (pss_cons (ps_if (pt_cmpR (op_neE (K := X.K) rfl (by show X.A.units + 3 + 64 < cLine; omega)) (pv 2) (pe_lst (pa_cons pe_bl (pa_cons pe_bl (pa_cons pe_bl pa_nil)))) (nomark _)) (pss_one (ps_ret (pe_tup (pa_cons pe_str pa_nil)))) pss_nil)
    (pss_cons (ps_if (PW.pt (pw_and (pt_val (pe_callB (call_isD T.ec_BadMode (cl_of T.ec_BadMode) hz hf) (by rfl) T.b_isinstance PyProof.Rows.boot_isinstance (pa_cons (pv 1) (pa_cons (pe_glob (v := .ref a.x_BadMode) rfl T.mg_BadMode rfl) pa_nil)))) (pw_and1 (pt_not (pt_val (pe_callB (call_isD T.ec_BadMode (cl_of T.ec_BadMode) hz hf) (by rfl) T.b_isinstance PyProof.Rows.boot_isinstance (pa_cons (pv 1) (pa_cons (pe_glob (v := .ref a.x_BadText) rfl T.mg_BadText rfl) pa_nil)))))))) (pss_one (ps_ret (pe_tup (pa_cons pe_str (pa_cons (pe_part T.ec_BadMode T.np_BadMode hz hf (pv 1)) pa_nil))))) pss_nil)
    (pss_one ps_never)))))) (pss_one (ps_ret (pe_tup (pa_cons pe_str pa_nil)))), ?reading⟩
  case body =>
    refine ⟨fun pins s' σ H' D I h' => ?_⟩
    obtain ⟨Ech, hW, h1, h2, h3⟩ := h'
    exact (pss_one (ps_ret (pe_tup (pa_cons pe_str (pa_cons (act _ pn xe Ech _ _ (Takes.len tk) (fun cls d σ' H' e => hW cls d σ' H' e)) pa_nil))))).run pins s' σ H' D I ⟨h1, h2, h3⟩
  case reading =>
    refine ⟨HeardX a Q, fun cls d σ' H' hx len => ?_, rfl, hc, h⟩
    obtain ⟨hcls, dd, s, hd, hxd, kk⟩ := hx
    refine ⟨true, by rw [hcls]; exact T.em_BadMode, fun _ a0 ha0 => ?_, fun z => nomatch z⟩
    match σ', len with
    | [x, y, z], _ =>
      refine q_asgL (xs := [.bl true, .bl false, .bl true]) (el_lst (ea_cons (ev_isD (K := X.K) rfl ev_c (fun u r => r) hcls hd hxd T.ks_BadInput) (ea_cons (ev_isD (K := X.K) rfl ev_c (fun u r => r) hcls hd hxd T.ks_NoWay) (ea_cons (ev_isD (K := X.K) rfl ev_c (fun u r => r) hcls hd hxd T.ks_ValueError) ea_nil))) (by show 3 ≤ 100000; decide)) fun m H1 _ e1 h1 => ?_
      refine q_when (b := false) (et_test (ev_opL (ev_var rfl) (el_lst (ea_cons ev_c (ea_cons ev_c (ea_cons ev_c ea_nil))) (by show 3 ≤ 100000; decide)) fun p H2 hp e2 => rv_neMarks (K := X.K) (e2 _ _ h1) hp)) (fun z => nomatch z) fun _ H2 e2 => ?_
      have hx2 := (e1.trans e2) _ _ hxd
      refine q_when (b := true) (et_and (a := true) (b := true) (et_B (ev_isD (K := X.K) rfl ev_c (fun u r => r) hcls hd hx2 T.ks_BadMode)) fun _ => et_is (et_not (a := false) (et_B (ev_isD (K := X.K) rfl ev_c (fun u r => r) hcls hd hx2 T.ks_BadText))) rfl) (fun _ H3 e3 => ?_) (fun z => nomatch z)
      exact s_retU (xs := [.str "mode", .str s]) (eu_tup (ea_cons ev_c (ea_cons (ev_partD rfl hcls hd (e3 _ _ hx2)) ea_nil)) (by show 2 ≤ 100000; decide)) fun t H4 ht e4 h4 => kk t H4 (fresh_back ((e1.trans e2).trans e3) ht) (((e1.trans e2).trans e3).trans e4) h4
end KZ
set_option Elab.async false
set_option linter.all false
set_option maxRecDepth 100000
set_option maxHeartbeats 4000000
namespace KZ
open PySem PySem.Spec PyProof.Rows L2 Evl
local macro_rules | `(tactic| walk_at "ev") => `(tactic| repeat' (first | exact ev_c | exact ev_var rfl | exact rv_I0 | refine' rv_I ?_ | refine' rv_eq ?_ | refine' rv_ne ?_ | refine' ev_op ?_ ?_ ?_ | exact ea_nil | refine' ea_cons ?_ ?_ | refine' et_test ?_ | refine' et_B ?_ | refine' et_not ?_ | refine' ev_notV ?_))

open PySem LamX
/-! ### what stays when objects are drawn from, and when a lambda is made -/
/-- all stays but dicts and tables -/
def Sd (H H' : Hp) : Prop := ∀ b o, H b = some o → (∀ ps, o ≠ .tbl ps) → (∀ kvs, o ≠ .dK kvs) → H' b = some o
theorem Sd.of {H H' : Hp} (e : Ex H H') : Sd H H' := fun b o h _ _ => e b o h
theorem Sd.ofN {H H' : Hp} (e : ExtN H H') : Sd H H' := fun b o h n _ => e b o h n
theorem Sd.ofB {H H' : Hp} {p : Addr} (hb : BagAt H p) (e : ExB p H H') : Sd H H' := fun b o h _ n => e b o h fun q => by
  obtain ⟨l, ns, at_, r, s, h1, _⟩ := hb
  rw [q, h1] at h
  cases h
  exact n _ rfl
theorem Sd.trans {H H1 H2 : Hp} (a : Sd H H1) (b : Sd H1 H2) : Sd H H2 := fun c o h n m => b c o (a c o h n m) n m
theorem ModeAt.sd {a : Ads} {H H' : Hp} {p : Addr} {n : Nat} (m : ModeAt a H p n) (e : Sd H H') : ModeAt a H' p n := by
  obtain ⟨dx, h⟩ := m
  exact ⟨dx, e _ _ h (fun _ z => nomatch z) (fun _ z => nomatch z)⟩
theorem BagAt.keepN {H H' : Hp} {p : Addr} (h : BagAt H p) (e : ExtN H H') : BagAt H' p := by
  obtain ⟨l, ns, at_, rest, state, h1, h2, h3⟩ := h
  exact ⟨l, ns, at_, rest, state, e _ _ h1 (fun _ z => nomatch z), e _ _ h2 (fun _ z => nomatch z), h3⟩
theorem tabs_exB {T : List (Addr × Str)} {H H' : Hp} {p : Addr} (t : Tabs T H) (hb : BagAt H p) (e : ExB p H H') : Tabs T H' := fun q hq => by
  obtain ⟨ps, h1, tr, h2⟩ := t q hq
  obtain ⟨l, ns, at_, r, s, hd, _⟩ := hb
  refine ⟨ps, e _ _ h1 (ne_of h1 hd fun z => nomatch z), tr, fun pos cv hc => ?_⟩
  obtain ⟨c, e1, e2⟩ := h2 pos cv hc
  exact ⟨c, e1, e _ _ e2 (ne_of e2 hd fun z => nomatch z)⟩
theorem tabs_keep {T : List (Addr × Str)} {H H' : Hp} (t : Tabs T H) (e : Ex H H') : Tabs T H' := LamX.Tabs.ext t e
/-! ### odd values -/
inductive KindV (H : Hp) : V → String → Prop
  | non : KindV H .non "NoneType"
  | int (i : Int) : KindV H (.int i) "int"
  | bl (b : Bool) : KindV H (.bl b) "bool"
  | str (s : Str) : KindV H (.str s) "str"
  | tup {p : Addr} {xs : List V} (h : H p = some (.tup xs)) : KindV H (.ref p) "tuple"
  | lst {p : Addr} {xs : List V} (h : H p = some (.lst xs)) : KindV H (.ref p) "list"
theorem KindV.sd {H H' : Hp} {x : V} {t : String} (h : KindV H x t) (e : Sd H H') : KindV H' x t := by
  cases h with
  | non => exact .non
  | int i => exact .int i
  | bl b => exact .bl b
  | str s => exact .str s
  | tup h => exact .tup (e _ _ h (fun _ z => nomatch z) (fun _ z => nomatch z))
  | lst h => exact .lst (e _ _ h (fun _ z => nomatch z) (fun _ z => nomatch z))
theorem KindV.ty {K : PySem.W.Frag} {H : Hp} {x : V} {t : String} (h : KindV H x t) : TyX K H x (.type t) := by
  cases h with
  | non => exact .base .non
  | int i => exact .base (.int i)
  | bl b => exact .base (.bl b)
  | str s => exact .base (.str s)
  | tup h => exact .base (.tup h)
  | lst h => exact .base (.lst h)
def OddV (H : Hp) (x : V) : Prop := (∃ t, KindV H x t ∧ kitB t "str" = some false) ∨ ∃ s ∈ oddL, x = .str s
theorem OddV.sd {H H' : Hp} {x : V} (h : OddV H x) (e : Sd H H') : OddV H' x := h.imp (fun ⟨t, k, b⟩ => ⟨t, k.sd e, b⟩) id
theorem OddV.odd {K : PySem.W.Frag} {H : Hp} {x : V} (h : OddV H x) : OddL K H x := h.imp (fun ⟨t, k, b⟩ => ⟨t, k.ty, fun _ e => (k.sd (Sd.of e)).ty, b⟩) id
def BadV (H : Hp) (x : V) (m : Int) : Prop := (∃ (t : String) (b1 b2 : Bool), KindV H x t ∧ kitB t "int" = some b1 ∧ kitB t "bool" = some b2 ∧ (b1 && !b2) = false) ∨ ∃ i : Int, x = .int i ∧ (i < 0 ∨ m < i)
theorem BadV.sd {H H' : Hp} {x : V} {m : Int} (h : BadV H x m) (e : Sd H H') : BadV H' x m := h.imp (fun ⟨t, b1, b2, k, r⟩ => ⟨t, b1, b2, k.sd e, r⟩) id
theorem BadV.bad {K : PySem.W.Frag} {H : Hp} {x : V} {m : Int} (h : BadV H x m) : BadW K H x m := h.imp (fun ⟨t, b1, b2, k, r⟩ => ⟨t, b1, b2, fun _ e => (k.sd (Sd.of e)).ty, r⟩) id
theorem kb_non : kitB "NoneType" "int" = some false ∧ kitB "NoneType" "bool" = some false := by decide +kernel
theorem kb_bl : kitB "bool" "int" = some true ∧ kitB "bool" "bool" = some true := by decide +kernel
theorem kb_str : kitB "str" "int" = some false ∧ kitB "str" "bool" = some false := by decide +kernel
theorem kb_tup : kitB "tuple" "int" = some false ∧ kitB "tuple" "bool" = some false := by decide +kernel
theorem kb_lst : kitB "list" "int" = some false ∧ kitB "list" "bool" = some false := by decide +kernel
/-! ### what is heard -/
section
variable {K : PySem.W.Frag} {a : Ads} {σ : L2.St} {H : Hp} {T : List (Addr × Str)} {i j l : Nat} {p : Addr} {n c : Nat} {x y : V} {Q : VK}
theorem heard_pat (tabs : Tabs T H) (hi : σ[i]? = some (some (.ref p))) (hj : σ[j]? = some (some x)) (hm : ModeAt a H p n) (hn : n < 512) (odd : OddV H x)
    (k : ∀ t H', ExtN H H' → Tabs T H' → H' t = some (.tup [.str "mode", .str "letter"]) → Q (.ref t) H') : tLam T (THeard a) (fun E => tMeth a.f_Mode "pattern" (spMPat K a) [] E (tVar i) (tCons (tVar j) tNil)) σ H Q :=
  ⟨tabs, fun H1 eN T1 => by
    have m1 := hm.sd (Sd.ofN eN)
    obtain ⟨dx, ho⟩ := id m1
    exact ⟨.ref p, hi, p, dx, _, rfl, ho, look_pat.1, x, hj, p, n, x, rfl, m1, hn, .inr ⟨(odd.sd (Sd.ofN eN)).odd, fun d H' hd e' h' => ⟨rfl, d, "letter", rfl, h', fun t H'' ht e'' h'' => k t H'' (eN.trans (ExtN.of (e'.trans e''))) (tabs_keep T1 (e'.trans e'')) h''⟩⟩⟩⟩
theorem heard_withO (tabs : Tabs T H) (hi : σ[i]? = some (some (.ref p))) (hj : σ[j]? = some (some x)) (hl : σ[l]? = some (some y)) (hm : ModeAt a H p n) (hn : n < 512) (odd : OddV H x)
    (k : ∀ t H', ExtN H H' → Tabs T H' → H' t = some (.tup [.str "mode", .str "letter"]) → Q (.ref t) H') : tLam T (THeard a) (fun E => tMeth a.f_Mode "with_pattern" (spMWith K a) [] E (tVar i) (tCons (tVar j) (tCons (tVar l) tNil))) σ H Q :=
  ⟨tabs, fun H1 eN T1 => by
    have m1 := hm.sd (Sd.ofN eN)
    obtain ⟨dx, ho⟩ := id m1
    exact ⟨.ref p, hi, p, dx, _, rfl, ho, look_pat.2, x, hj, y, hl, p, n, x, y, rfl, m1, hn, .inr (.inl ⟨(odd.sd (Sd.ofN eN)).odd, fun d H' hd e' h' => ⟨rfl, d, "letter", rfl, h', fun t H'' ht e'' h'' => k t H'' (eN.trans (ExtN.of (e'.trans e''))) (tabs_keep T1 (e'.trans e'')) h''⟩⟩)⟩⟩
theorem heard_withB (tabs : Tabs T H) (hi : σ[i]? = some (some (.ref p))) (hj : σ[j]? = some (some (.str (letS c)))) (hl : σ[l]? = some (some y)) (hm : ModeAt a H p n) (hn : n < 512) (hc : c < 3) (bad : BadV H y 7)
    (k : ∀ t H', ExtN H H' → Tabs T H' → H' t = some (.tup [.str "mode", .str "pattern"]) → Q (.ref t) H') : tLam T (THeard a) (fun E => tMeth a.f_Mode "with_pattern" (spMWith K a) [] E (tVar i) (tCons (tVar j) (tCons (tVar l) tNil))) σ H Q :=
  ⟨tabs, fun H1 eN T1 => by
    have m1 := hm.sd (Sd.ofN eN)
    obtain ⟨dx, ho⟩ := id m1
    exact ⟨.ref p, hi, p, dx, _, rfl, ho, look_pat.2, .str (letS c), hj, y, hl, p, n, .str (letS c), y, rfl, m1, hn, .inr (.inr ⟨c, hc, rfl, (bad.sd (Sd.ofN eN)).bad, fun d H' hd e' h' => ⟨rfl, d, "pattern", rfl, h', fun t H'' ht e'' h'' => k t H'' (eN.trans (ExtN.of (e'.trans e''))) (tabs_keep T1 (e'.trans e'')) h''⟩⟩)⟩⟩
end
/-! ### a mode built of its patterns -/
def bN (n : Nat) : Nat → Nat
  | 0 => 0
  | j + 1 => wN (bN n j) j (patN n (wtN j))
theorem built_all : ∀ n : Nat, n < 512 → (∀ j : Nat, j < 4 → bN n j < 512) ∧ bN n 3 = n ∧ (∀ j : Nat, j < 3 → patN n (wtN j) < 8) := by
  have h : ((List.range 512).all fun (n : Nat) => decide ((∀ j : Nat, j < 4 → bN n j < 512) ∧ bN n 3 = n ∧ (∀ j : Nat, j < 3 → patN n (wtN j) < 8))) = true := by decide +kernel
  exact fun n hn => of_decide_eq_true (all_nat h n hn)
/-- a draw -/
theorem draw_is {σ : L2.St} {H : Hp} {E : XK} {p : Addr} {i : Nat} {Q : VK} (m : Nat) (hi : σ[i]? = some (some (.ref p))) (hb : BagAt H p) (h0 : 0 < m) (h1 : m ≤ 1000) (k : ∀ d H', d < m → ExB p H H' → BagAt H' p → Q (.int (d : Nat)) H') : tCall spDraw [] E (tCons (tVar i) (tCons (tC (.int (m : Nat))) tNil)) σ H Q :=
  ⟨.ref p, hi, p, m, rfl, hb, h0, h1, fun d H' hd e b => k d H' hd e b⟩
def oddAt (t l : Addr) : List V := [.non, .str "", .str "R", .str "X", .str "rw", .str "u", .int 0, .bl true, .ref t, .ref l, .str "r "]
def badAt (t : Addr) : List V := [.int 8, .int (-1), .non, .bl true, .str "5", .int (10 ^ (30 : Int).toNat), .ref t]
theorem odd_at {H : Hp} {t l : Addr} (h1 : H t = some (.tup [.str "r"])) (h2 : H l = some (.lst [.str "r"])) (d : Nat) (hd : d < 11) : ∃ x, (oddAt t l)[d]? = some x ∧ OddV H x := by
  match d, hd with
  | 0, _ => exact ⟨_, rfl, .inl ⟨_, .non, by decide +kernel⟩⟩
  | 1, _ => exact ⟨_, rfl, .inr ⟨_, by decide +kernel, rfl⟩⟩
  | 2, _ => exact ⟨_, rfl, .inr ⟨_, by decide +kernel, rfl⟩⟩
  | 3, _ => exact ⟨_, rfl, .inr ⟨_, by decide +kernel, rfl⟩⟩
  | 4, _ => exact ⟨_, rfl, .inr ⟨_, by decide +kernel, rfl⟩⟩
  | 5, _ => exact ⟨_, rfl, .inr ⟨_, by decide +kernel, rfl⟩⟩
  | 6, _ => exact ⟨_, rfl, .inl ⟨_, .int _, by decide +kernel⟩⟩
  | 7, _ => exact ⟨_, rfl, .inl ⟨_, .bl _, by decide +kernel⟩⟩
  | 8, _ => exact ⟨_, rfl, .inl ⟨_, .tup h1, by decide +kernel⟩⟩
  | 9, _ => exact ⟨_, rfl, .inl ⟨_, .lst h2, by decide +kernel⟩⟩
  | 10, _ => exact ⟨_, rfl, .inr ⟨_, by decide +kernel, rfl⟩⟩
theorem bad_at {H : Hp} {t : Addr} (h1 : H t = some (.tup [.int 5])) (d : Nat) (hd : d < 7) : ∃ x, (badAt t)[d]? = some x ∧ BadV H x 7 := by
  match d, hd with
  | 0, _ => exact ⟨_, rfl, .inr ⟨_, rfl, .inr (by decide)⟩⟩
  | 1, _ => exact ⟨_, rfl, .inr ⟨_, rfl, .inl (by decide)⟩⟩
  | 2, _ => exact ⟨_, rfl, .inl ⟨_, _, _, .non, kb_non.1, kb_non.2, rfl⟩⟩
  | 3, _ => exact ⟨_, rfl, .inl ⟨_, _, _, .bl _, kb_bl.1, kb_bl.2, rfl⟩⟩
  | 4, _ => exact ⟨_, rfl, .inl ⟨_, _, _, .str _, kb_str.1, kb_str.2, rfl⟩⟩
  | 5, _ => exact ⟨_, rfl, .inr ⟨_, rfl, .inr (by decide)⟩⟩
  | 6, _ => exact ⟨_, rfl, .inl ⟨_, _, _, .tup h1, kb_tup.1, kb_tup.2, rfl⟩⟩
theorem sd_pair {H : Hp} {t q : Addr} {s1 s2 : Str} {n : Nat} (h1 : H t = some (.tup [.str s1, .str s2])) (h2 : H q = some (.tup [.str s1, .str s2])) : SD H (n + 1) (.ref t) (.ref q) := .seq true h1 h2 rfl (by show 2 ≤ 1000; decide) fun i x y hx hy => by
  rw [hx] at hy
  cases hy
  match i, hx with
  | 0, hx => cases hx; exact .str _ _
  | 1, hx => cases hx; exact .str _ _
theorem bag_app {H : Hp} {p l h : Addr} {xs ys : List V} (b : BagAt H p) (hl : H l = some (.lst (.ref h :: xs))) : BagAt (upd H l (.lst ys)) p := by
  obtain ⟨c, ns, at_, rest, state, h1, h2, h3⟩ := b
  have n1 : p ≠ l := ne_of h1 hl fun z => nomatch z
  have n2 : c ≠ l := fun q => by
    rw [q, hl] at h2
    injection h2 with h2
    injection h2 with h2
    match ns, h2 with
    | [], h2 => cases h2
    | _ :: _, h2 => cases h2
  exact ⟨c, ns, at_, rest, state, by rw [upd_ne n1]; exact h1, by rw [upd_ne n2]; exact h2, h3⟩
theorem tab_app {H : Hp} {T : List (Addr × Str)} {l : Addr} {xs ys : List V} (t : Tabs T H) (hl : H l = some (.lst xs)) : Tabs T (upd H l (.lst ys)) := fun q hq => by
  obtain ⟨ps, h1, tr, h2⟩ := t q hq
  refine ⟨ps, by rw [upd_ne (ne_of h1 hl fun z => nomatch z)]; exact h1, tr, fun pos cv hc => ?_⟩
  obtain ⟨c, e1, e2⟩ := h2 pos cv hc
  exact ⟨c, e1, by rw [upd_ne (ne_of e2 hl fun z => nomatch z)]; exact e2⟩
section
variable {K : PySem.W.Frag} {a : Ads} {σ : L2.St} {H : Hp} {ta tb te : TE} {E : XK} {i n : Nat} {v : V}
theorem ev_mpatM (hp : EvM a ta σ H n) (hl : Ev tb σ H (.str (letS i))) (hn : n < 512) (hi : i < 3) : Ev (tMeth a.f_Mode "pattern" (spMPat K a) [] E ta (tCons tb tNil)) σ H (.int (patN n (wtN i) : Nat)) := fun H1 e Q k =>
  hp H1 e _ fun p H2 _ e2 m2 => by
    obtain ⟨dx, ho⟩ := id m2
    exact ⟨p, dx, _, rfl, ho, look_pat.1, hl H2 (e.trans e2) _ fun H3 e3 => ⟨p, n, .str (letS i), rfl, m2.mono e3, hn, .inl ⟨i, hi, rfl, fun H4 e4 => k H4 ((e2.trans e3).trans e4)⟩⟩⟩
theorem el_rep3 (h : EvL te σ H [v]) : EvL (tOp rRep te (tC (.int 3))) σ H [v, v, v] := fun H1 e Q k => h H1 e _ fun b H2 _ e2 h2 => ⟨b, 3, [v], rfl, rfl, h2, by decide, by decide, by show 1 * 3 ≤ sizeLine; decide, fun p hp => k p _ (fresh_back e2 hp) (e2.trans (Ex.new hp)) upd_same⟩
theorem rv_neNums {b c : Addr} {xs : List Nat} (h1 : H b = some (.lst (numV xs))) (h2 : H c = some (.lst (numV xs))) : RV (rNeD K) (.ref b) (.ref c) H (.bl false) := fun H1 e Q q =>
  ⟨.list (xs.map fun (n : Nat) => .int (n : Int)), .list (xs.map fun (n : Nat) => .int (n : Int)), .lst (sq_of (e _ _ h1)) (dp_nums xs), .lst (sq_of (e _ _ h2)) (dp_nums xs), shaped_nums xs, shaped_nums xs, by
    rw [show PyData.eqv (.list (xs.map fun (n : Nat) => PyData.int (n : Int))) (.list (xs.map fun (n : Nat) => PyData.int (n : Int))) = PyData.eqvAll (xs.map fun (n : Nat) => PyData.int (n : Int)) (xs.map fun (n : Nat) => PyData.int (n : Int)) by simp [PyData.eqv], eqv_nats, decide_eq_true rfl]
    exact q H1 (Ex.refl H1)⟩
end
end KZ
set_option Elab.async false
set_option linter.all false
set_option maxRecDepth 100000
set_option maxHeartbeats 4000000
namespace KZ
open PySem PySem.Spec PyProof.Rows L2 Evl
local macro_rules | `(tactic| walk_at "ev") => `(tactic| repeat' (first | exact ev_c | exact ev_var rfl | exact rv_I0 | refine' rv_I ?_ | refine' rv_eq ?_ | refine' rv_ne ?_ | refine' ev_op ?_ ?_ ?_ | exact ea_nil | refine' ea_cons ?_ ?_ | refine' et_test ?_ | refine' et_B ?_ | refine' et_not ?_ | refine' ev_notV ?_))

open PySem LamX
def uni (p : Nat) : Nat := 448 * (p / 4) + 56 * (p / 2 % 2) + 7 * (p % 2)
theorem uni_is : ∀ p : Nat, p < 8 → uni p < 512 ∧ patN (uni p) 4 = p ∧ patN (uni p) 2 = p ∧ patN (uni p) 1 = p := by
  have h : ((List.range 8).all fun (p : Nat) => decide (uni p < 512 ∧ patN (uni p) 4 = p ∧ patN (uni p) 2 = p ∧ patN (uni p) 1 = p)) = true := by decide +kernel
  exact fun p hp => of_decide_eq_true (all_nat h p hp)
def spBits7 : Sp := fun vs H Q _ => ∃ p : Nat, vs = [.int p, .int 7] ∧ p < 8 ∧ ∀ H', Ex H H' → Q (.int (uni p : Nat)) H'
theorem bits7_is : ∀ p : Nat, p < 8 → Builtin.bitOr (Builtin.bitOr (Builtin.bitAnd (p : Int) 4 * 2 ^ (4 : Int).toNat) (Builtin.bitAnd (p : Int) 2 * 2 ^ (2 : Int).toNat)) (Builtin.bitAnd (p : Int) 1) * 7 = (uni p : Nat) := by
  have h : ((List.range 8).all fun (p : Nat) => decide (Builtin.bitOr (Builtin.bitOr (Builtin.bitAnd (p : Int) 4 * 2 ^ (4 : Int).toNat) (Builtin.bitAnd (p : Int) 2 * 2 ^ (2 : Int).toNat)) (Builtin.bitAnd (p : Int) 1) * 7 = (uni p : Nat))) = true := by decide +kernel
  exact fun p hp => of_decide_eq_true (all_nat h p hp)
def spUni (a : Ads) : Sp := fun vs H Q _ => ∃ p : Nat, vs = [.int p] ∧ p < 8 ∧ ∀ q H', H q = none → Ex H H' → ModeAt a H' q (uni p) → Q (.ref q) H'
section
variable {K : PySem.W.Frag} {a : Ads} {σ : L2.St} {H : Hp} {te : TE} {E : XK} {n : Nat}
theorem em_uniform (h : Ev te σ H (.int (n : Nat))) (hn : n < 8) : EvM a (tSMeth a.f_Mode (fun vs H Q E => spUni a (vs ++ []) H Q E) E (tC (.ref a.f_Mode)) (tCons te tNil)) σ H (uni n) := fun H1 e Q q =>
  ⟨rfl, h H1 e _ fun H2 e2 => ⟨n, rfl, hn, fun p H3 hp e3 m => q p H3 (fresh_back e2 hp) (e2.trans e3) m⟩⟩
end
section
variable {P : Program} {w : World} {K : PySem.W.Frag} {mg : Str → Option Value} {base : Heap} {a : Ads}
theorem ok_bits7 (T : Txt w K mg a) : FnOk P w K mg base CX0 1 a.f_bits_of a.d_bits_of ["pattern", "weight"] spBits7 := by
  refine T.fn_bits_of.ok sc_bits_of (fun vs H Q E h => ?_) (fun cdv A outer s H vs Q E hr h => ?_)
  · obtain ⟨_, rfl, _⟩ := h
    rfl
  · obtain ⟨n, rfl, hn, k⟩ := h
    refine ⟨_, (pss_one (ps_ret (pe_op op_mul (pe_op op_or (pe_op op_or (pe_op op_shl (pe_op op_and (pv 0) pe_int) pe_int) (pe_op op_shl (pe_op op_and (pv 0) pe_int) pe_int)) (pe_op op_and (pv 0) pe_int)) (pv 1)))), ?_⟩
    refine s_ret (v := .int (uni n : Nat)) (ev_is (by walk_at "ev"; exact ⟨by decide, by decide, (and_lt n hn).1⟩; exact ⟨by decide, by decide, (and_lt n hn).2⟩; exact Or.inr ⟨by omega, by omega⟩) (congrArg V.int (bits7_is n hn))) fun H2 e2 => ?_
    exact k H2 e2
theorem ok_uniform (T : Txt w K mg a) : FnOk P w K mg base CX0 7 a.f_Mode_uniform a.d_Mode_uniform ["pattern"] (spUni a) := by
  have G_Mode_init : FnOk P w K mg base CX0 5 _ _ _ _ := ok_Mode_init T
  have G_bits_of : FnOk P w K mg base CX0 6 _ _ _ _ := (ok_bits7 T).mono (by decide)
  refine T.fn_Mode_uniform.ok sc_Mode_uniform (fun vs H Q E h => ?_) (fun cdv A outer s H vs Q E hr h => ?_)
  · obtain ⟨_, rfl, _⟩ := h
    rfl
  · obtain ⟨p, rfl, hp, k⟩ := h
    have hrm : Room 6 _ := hr
    have hrc : Room 6 _ := hr
    refine ⟨_, (pss_one (ps_ret (pe_make T.mk_Mode G_Mode_init hrm rfl T.mg_Mode (bd_ModeD_initD T) .nil pass0 (pa_cons (pe_call G_bits_of hrc rfl T.mg_bits_of T.fn_bits_of.kp (bd_bits_of T) .nil pass0 (pa_cons (pv 0) (pa_cons pe_int pa_nil))) pa_nil)))), ?_⟩
    exact em_mode (a := a) (n := uni p) (ev_call (vs := [.int p, .int 7]) (by walk_at "ev") fun H1 e1 Q1 q1 E1 => ⟨p, rfl, hp, q1⟩) (uni_is p hp).1 H (Ex.refl H) _ fun q H1 hq e1 m => k q H1 hq e1 m
abbrev qL : Str := "law" ++ ".<locals>." ++ "<lambda>"
def spLaw (K : PySem.W.Frag) (P0 : Addr) : Sp := fun vs H Q _ => ∃ (s : Addr) (ns : List Int), vs = [.ref s] ∧ SqL K H s (ns.map V.int) ∧ ns.length ≤ 63 ∧ H P0 = some (.tbl #[]) ∧ ∀ H', Q (.bl true) H'
theorem ok_law (T : Txt w K mg a) {cA P0 : Addr} {oc kV doc pm ct : Value} {od an : Option Addr} {osl : Array (Option Value)} (lkL : K.lookup a.f_law = some ⟨oc, od, .func (PySem.W.fnOf "law" "law" (defArgs s_law) (defBody s_law) (defScope s_law) .none kV doc pm an (.ref cA) ct), osl⟩) (hcdL : PySem.W.codeIn K (.ref cA) "law" = true) (TB : TabB base mg cA P0) :
    FnOk P w K mg base CX0 13 a.f_law (PySem.W.fnOf "law" "law" (defArgs s_law) (defBody s_law) (defScope s_law) .none kV doc pm an (.ref cA) ct) ["_law_script"] (spLaw K P0) := by
  have G__law_bag : FnOk P w K mg base CX0 12 _ _ _ _ := (ok_bag T).mono (by decide)
  have G__law_draw : FnOk P w K mg base CX0 12 _ _ _ _ := (ok_draw T).mono (by decide)
  have G__law_right : FnOk P w K mg base CX0 12 _ _ _ _ := (ok_lright T).mono (by decide)
  have G__law_same : FnOk P w K mg base CX0 12 _ _ _ (spSame 2) := (show FnOk P w K mg base CX0 3 _ _ _ (spSame 2) from ok_sameG T 3).mono (by decide)
  have G_Mode_with_pattern : FnOk P w K mg base (L2.CX P w) 12 _ _ _ _ := (ok_MWith T).mono (by decide)
  have G_Mode_pattern : FnOk P w K mg base (L2.CX P w) 12 _ _ _ _ := (ok_MPattern T).mono (by decide)
  have G_Mode_init : FnOk P w K mg base CX0 11 _ _ _ _ := (ok_Mode_init T).mono (by decide)
  have G_Mode_uniform : FnOk P w K mg base CX0 12 _ _ _ _ := (ok_uniform T).mono (by decide)
  have G_Mode_eq : FnOk P w K mg base CX0 12 _ _ _ _ := (ok_Mode_eq T).mono (by decide)
  have G_Mode_patternL : FnOk P w K mg base (L2.CX P w) 10 _ _ _ _ := (ok_MPattern T).mono (by decide)
  have G_Mode_with_patternL : FnOk P w K mg base (L2.CX P w) 10 _ _ _ _ := (ok_MWith T).mono (by decide)
  refine fn_of lkL hcdL sc_law (fun vs H Q E h => ?_) fun A outer s H vs Q E hr h => ?_
  · obtain ⟨_, _, rfl, _⟩ := h
    rfl
  · obtain ⟨sc, ns, rfl, hs, hl, tab, k⟩ := h
    have hrc : Room 12 _ := hr
    have hrm : Room (11 + 1) _ := hr
    obtain ⟨ocH, odH, kVH, docH, pmH, anH, cdvH, ctH, oslH, eH, lkH, hcdH⟩ := id T.fn__law_heard.ex
    have hbH := bd__law_heard T
    rw [eH] at lkH hbH
    refine ⟨_, (show PSs (cxOf CX0 P w K mg base n_law "law" (defScope s_law) a.f_law (.ref cA) A outer s H E).nox (defBody s_law) _ from (pss_cons (ps_set (i := 1) sc_law.nd rfl (Or.inl rfl) (pe_call G__law_bag hrc rfl T.mg__law_bag T.fn__law_bag.kp (bd__law_bag T) .nil pass0 (pa_cons (pv 0) pa_nil)))
    (pss_cons (ps_for PassesOwn.never rfl (pi_range1 rfl T.b_range (pa_cons pe_int pa_nil)) (pg_name (i := 2) sc_law.nd rfl (Or.inl rfl)) (pss_cons (ps_asg (pe_tup (pa_cons (pe_call G__law_draw hrc rfl T.mg__law_draw T.fn__law_draw.kp (bd__law_draw T) .nil pass0 (pa_cons (pv 1) (pa_cons pe_int pa_nil))) (pa_cons (pe_call G__law_draw hrc rfl T.mg__law_draw T.fn__law_draw.kp (bd__law_draw T) .nil pass0 (pa_cons (pv 1) (pa_cons pe_int pa_nil))) (pa_cons (pe_call G__law_draw hrc rfl T.mg__law_draw T.fn__law_draw.kp (bd__law_draw T) .nil pass0 (pa_cons (pv 1) (pa_cons pe_int pa_nil))) pa_nil)))) (pg_tup rfl (pgs_cons (pg_name (i := 3) sc_law.nd rfl (Or.inl rfl)) (pgs_cons (pg_name (i := 4) sc_law.nd rfl (Or.inl rfl)) (pgs_cons (pg_name (i := 5) sc_law.nd rfl (Or.inr rfl)) pgs_nil)))))
    (pss_cons (ps_if (pt_not (pt_val (pe_call G__law_right hrc rfl T.mg__law_right T.fn__law_right.kp (bd__law_right T) .nil pass0 (pa_cons (pv 3) (pa_cons (pv 4) (pa_cons (pv 5) pa_nil)))))) (pss_one (ps_ret pe_bl)) pss_nil)
    (pss_cons (ps_set (i := 9) sc_law.nd rfl (Or.inr rfl) (pe_make T.mk_Mode G_Mode_init hrm rfl T.mg_Mode (bd_ModeD_initD T) .nil pass0 (pa_cons (pv 3) pa_nil)))
    (pss_cons (ps_set (i := 6) sc_law.nd rfl (Or.inl rfl) (pe_make T.mk_Mode G_Mode_init hrm rfl T.mg_Mode (bd_ModeD_initD T) .nil pass0 (pa_cons pe_int pa_nil)))
    (pss_cons (ps_for PassesOwn.never rfl (pi_str pe_str) (pg_name (i := 7) sc_law.nd rfl (Or.inr rfl)) (pss_one (ps_set (i := 6) sc_law.nd rfl (Or.inl rfl) (pe_meth (pv 6) T.c_Mode T.m_Mode_with_pattern G_Mode_with_pattern hrc (bd_Mode_with_pattern T) .nil passL (pa_cons (pv 7) (pa_cons (pe_meth (pv 9) T.c_Mode T.m_Mode_pattern G_Mode_pattern hrc (bd_Mode_pattern T) .nil passL (pa_cons (pv 7) pa_nil)) pa_nil))))))
    (pss_cons (ps_if (PW.pt (pw_or (pt_not (pt_cmpR (op_ownI (by intro _ _; rfl) T.m_ModeD_eqD.at_ T.m_ModeD_eqD.fn T.nf_Mode (G_Mode_eq.raw (bd_ModeD_eqD T) .nil) hrc pass0) (pv 6) (pv 9) (nomark _))) (pw_or1 (pt_cmpR (op_neD hr.units) (pe_lc (own := [("_law_which", 7)]) (g := gName 7) rfl sc_law.nd (pi_str pe_str) (blkOk_by (own := [("_law_which", 7)]) (N := n_law) (sc := defScope s_law) (by decide +kernel)) (fun _ _ _ _ _ => (pg_name (i := 7) sc_law.nd rfl (Or.inl rfl))) (fun _ _ _ _ _ => pts_nil) (fun _ _ _ _ _ => (pe_meth (pe_smeth (pe_glob (v := .ref a.f_Mode) rfl T.mg_Mode rfl) T.r_Mode T.m_Mode_uniform (G_Mode_uniform.raw (bd_Mode_uniform T) .nil) hrc pass0 (pa_cons (pv 5) pa_nil)) T.c_Mode T.m_Mode_pattern G_Mode_pattern hrc (bd_Mode_pattern T) .nil passL (pa_cons (pv 7) pa_nil)))) (pe_op op_rep (pe_lst (pa_cons (pv 5) pa_nil)) pe_int) (nomark _))))) (pss_one (ps_ret pe_bl)) pss_nil)
    (pss_cons (ps_set (i := 10) sc_law.nd rfl (Or.inr rfl) (pe_ix ix_list (pe_lst (pa_cons pe_non (pa_cons pe_str (pa_cons pe_str (pa_cons pe_str (pa_cons pe_str (pa_cons pe_str (pa_cons pe_int (pa_cons pe_bl (pa_cons (pe_tup (pa_cons pe_str pa_nil)) (pa_cons (pe_lst (pa_cons pe_str pa_nil)) (pa_cons pe_str pa_nil)))))))))))) (pe_call G__law_draw hrc rfl T.mg__law_draw T.fn__law_draw.kp (bd__law_draw T) .nil pass0 (pa_cons (pv 1) (pa_cons pe_int pa_nil))) (fun _ _ => rfl)))
    (pss_cons (ps_if (pt_not (pt_val (pe_call G__law_same hrc rfl T.mg__law_same T.fn__law_same.kp (bd__law_same T) .nil pass0 (pa_cons (pe_lamcall (T := [(P0, _)]) (TT := THeard a) rfl T.mg__law_heard T.fn__law_heard.kp lkH hcdH hbH sc__law_heard rfl (Or.inl rfl) (heard_gives T (show A.units + 3 + 100 < cLine by have := hr.un; have e : A.units + 3 + 16 * 12 + 200 < cLine := this; omega)) TB rfl (List.mem_singleton.mpr rfl) (fun p m _ => by rw [List.mem_singleton.mp m]) (k := 10) hrc (lamS_by (show lamSB (defScope s_law) _ = true by decide +kernel)) rfl (fun _ _ _ _ _ => rfl) (fun _ _ _ _ _ _ _ hr2 => (pe_meth (pv 9) T.c_Mode T.m_Mode_pattern G_Mode_patternL hr2 (bd_Mode_pattern T) .nil (passes_call (takes_of rfl rfl rfl rfl) fun _ _ _ _ h => h) (pa_cons (pv 10) pa_nil)))) (pa_cons (pe_tup (pa_cons pe_str (pa_cons pe_str pa_nil))) pa_nil))))) (pss_one (ps_ret pe_bl)) pss_nil)
    (pss_cons (ps_set (i := 11) sc_law.nd rfl (Or.inr rfl) (pe_ix ix_list (pe_lst (pa_cons pe_int (pa_cons (pe_un un_neg pe_int) (pa_cons pe_non (pa_cons pe_bl (pa_cons pe_str (pa_cons (pe_op op_pow pe_int pe_int) (pa_cons (pe_tup (pa_cons pe_int pa_nil)) pa_nil)))))))) (pe_call G__law_draw hrc rfl T.mg__law_draw T.fn__law_draw.kp (bd__law_draw T) .nil pass0 (pa_cons (pv 1) (pa_cons pe_int pa_nil))) (fun _ _ => rfl)))
    (pss_cons (ps_set (i := 7) sc_law.nd rfl (Or.inr rfl) (pe_ix ix_str pe_str (pv 4) (fun _ _ => rfl)))
    (pss_cons (ps_set (i := 8) sc_law.nd rfl (Or.inl rfl) (pe_lst (pa_cons (pe_lamcall (T := [(P0, _)]) (TT := THeard a) rfl T.mg__law_heard T.fn__law_heard.kp lkH hcdH hbH sc__law_heard rfl (Or.inl rfl) (heard_gives T (show A.units + 3 + 100 < cLine by have := hr.un; have e : A.units + 3 + 16 * 12 + 200 < cLine := this; omega)) TB rfl (List.mem_singleton.mpr rfl) (fun p m _ => by rw [List.mem_singleton.mp m]) (k := 10) hrc (lamS_by (show lamSB (defScope s_law) _ = true by decide +kernel)) rfl (fun _ _ _ _ _ => rfl) (fun _ _ _ _ _ _ _ hr2 => (pe_meth (pv 9) T.c_Mode T.m_Mode_with_pattern G_Mode_with_patternL hr2 (bd_Mode_with_pattern T) .nil (passes_call (takes_of rfl rfl rfl rfl) fun _ _ _ _ h => h) (pa_cons (pv 10) (pa_cons (pv 11) pa_nil))))) pa_nil)))
    (pss_cons (ps_expr (pe_bm PySem.F.plainAttrs_list PySem.F.slot_list_append PySem.F.type_list_append mt_append (pv 8) (pa_cons (pe_lamcall (T := [(P0, _)]) (TT := THeard a) rfl T.mg__law_heard T.fn__law_heard.kp lkH hcdH hbH sc__law_heard rfl (Or.inl rfl) (heard_gives T (show A.units + 3 + 100 < cLine by have := hr.un; have e : A.units + 3 + 16 * 12 + 200 < cLine := this; omega)) TB rfl (List.mem_singleton.mpr rfl) (fun p m _ => by rw [List.mem_singleton.mp m]) (k := 10) hrc (lamS_by (show lamSB (defScope s_law) _ = true by decide +kernel)) rfl (fun _ _ _ _ _ => rfl) (fun _ _ _ _ _ _ _ hr2 => (pe_meth (pv 9) T.c_Mode T.m_Mode_with_pattern G_Mode_with_patternL hr2 (bd_Mode_with_pattern T) .nil (passes_call (takes_of rfl rfl rfl rfl) fun _ _ _ _ h => h) (pa_cons (pv 7) (pa_cons (pv 11) pa_nil))))) pa_nil)))
    (pss_one (ps_if (pt_not (pt_val (pe_call G__law_same hrc rfl T.mg__law_same T.fn__law_same.kp (bd__law_same T) .nil pass0 (pa_cons (pv 8) (pa_cons (pe_lst (pa_cons (pe_tup (pa_cons pe_str (pa_cons pe_str pa_nil))) (pa_cons (pe_tup (pa_cons pe_str (pa_cons pe_str pa_nil))) pa_nil))) pa_nil))))) (pss_one (ps_ret pe_bl)) pss_nil)))))))))))))))
    (pss_one (ps_ret pe_bl))))).nox, ?_⟩
    refine ⟨.ref sc, rfl, sc, ns, rfl, hs, hl, fun p H1 hp e1 bag1 => ?_⟩
    have tab1 : Tabs [(P0, qL)] H1 := fun q hq => by
      rw [List.mem_singleton.mp hq]
      exact TabS.nil (e1 _ _ tab)
    refine q_forR1 (n := 6) (ea_cons ev_c ea_nil) (by decide) (fun i σ' H' => ∃ o2 o3 o4 o5 o6 o7 o8 o9 o10 o11, σ' = [some (.ref sc), some (.ref p), o2, o3, o4, o5, o6, o7, o8, o9, o10, o11] ∧ BagAt H' p ∧ Tabs [(P0, qL)] H') (fun H2 e2 => ⟨_, _, _, _, _, _, _, _, _, _, rfl, bag1.keep e2, tabs_keep tab1 e2⟩) (fun i σ' H2 hi q => ?_) (fun σ' H2 q => ?_)
    · obtain ⟨o2, o3, o4, o5, o6, o7, o8, o9, o10, o11, rfl, bag2, tab2⟩ := q
      refine draw_is 512 rfl bag2 (by decide) (by decide) fun n H3 hn e3 bag3 => ?_
      have tab3 := tabs_exB tab2 bag2 e3
      refine draw_is 3 rfl bag3 (by decide) (by decide) fun at_ H4 hat e4 bag4 => ?_
      have tab4 := tabs_exB tab3 bag3 e4
      refine draw_is 8 rfl bag4 (by decide) (by decide) fun c H5 hc e5 bag5 => ?_
      have tab5 := tabs_exB tab4 bag4 e5
      refine ⟨by show 3 ≤ sizeLine; decide, fun t ht => ?_⟩
      have bag6 := bag5.keep (Ex.new ht (o := .tup [.int (n : Nat), .int (at_ : Nat), .int (c : Nat)]))
      have tab6 := tabs_keep tab5 (Ex.new ht (o := .tup [.int (n : Nat), .int (at_ : Nat), .int (c : Nat)]))
      refine ⟨t, _, rfl, st_of upd_same, rfl, ?_⟩
      generalize upd H5 t (.tup [.int (n : Nat), .int (at_ : Nat), .int (c : Nat)]) = H6 at bag6 tab6
      clear e3 e4 e5 ht bag2 bag3 bag4 bag5 tab2 tab3 tab4 tab5
      refine ⟨_, _, rfl, _, _, rfl, _, _, rfl, rfl, ?_⟩
      refine q_when (b := false) (et_not (a := true) (et_B (ev_call (vs := [.int (n : Nat), .int (at_ : Nat), .int (c : Nat)]) (ea_cons (ev_var rfl) (ea_cons (ev_var rfl) (ea_cons (ev_var rfl) ea_nil))) fun H7 e Q q E => ⟨n, at_, c, rfl, hn, hat, hc, q⟩))) (fun z => nomatch z) fun _ H7 e7 => ?_
      refine q_asgM (a := a) (n := n) (em_mode (ev_var rfl) hn) fun mo H8 e8 hmo => ?_
      refine q_asgM (a := a) (n := 0) (em_mode ev_c (by decide)) fun bu H9 e9 hbu => ?_
      have bag9 := ((bag6.keep e7).keep e8).keep e9
      have tab9 := tabs_keep (tabs_keep (tabs_keep tab6 e7) e8) e9
      have hmo9 := hmo.mono e9
      clear e7 e8 e9 hmo bag6 tab6
      obtain ⟨blt, b3, plt⟩ := built_all n hn
      refine q_forS (s := "rwx") ev_c (fun j σ' H' => ∃ b o7, σ' = [some (.ref sc), some (.ref p), some (.int (i : Nat)), some (.int (n : Nat)), some (.int (at_ : Nat)), some (.int (c : Nat)), some (.ref b), o7, o8, some (.ref mo), o10, o11] ∧ ModeAt a H' b (bN n j) ∧ Ex H9 H') (fun H10 e10 => ⟨bu, _, rfl, hbu.mono e10, e10⟩) (fun j ch σ' H10 hch q => ?_) (fun σ' H10 q => ?_)
      · obtain ⟨b, o7', rfl, hb, e10⟩ := q
        have hj : j < 3 := by
          have := (List.getElem?_eq_some_iff.mp hch).1
          rw [Array.length_toList, rwx_size.1] at this
          exact this
        obtain ⟨_, s2, s3⟩ := let_sign j hj
        rw [Array.getElem?_toList, s3] at hch
        cases hch
        rw [s2]
        exact em_with (K := K) (ev_var rfl) (ev_var rfl) (ev_mpat (K := K) (ev_var rfl) (ev_var rfl) (hmo9.mono e10) hn hj) hb (blt j (by omega)) hj (plt j hj) H10 (Ex.refl _) _ fun q H11 _ e11 hq => ⟨q, _, rfl, hq, e10.trans e11⟩
      · obtain ⟨b, o7', rfl, hb, e10⟩ := q
        rw [rwx_size.1, b3] at hb
        have bag10 := bag9.keep e10
        have tab10 := tabs_keep tab9 e10
        have hmo10 := hmo9.mono e10
        clear e10 bag9 tab9 hmo9 hbu
        obtain ⟨ult, u4, u2, u1⟩ := uni_is c hc
        refine q_when (b := false) (et_is (et_or (et_not (et_test (ev_op (ev_var rfl) (ev_var rfl) (rv_ownI (K := K) hb hmo10)))) fun _ => et_test (ev_opLL (xs := numV [c, c, c]) (ys := numV [c, c, c]) (el_is (el_lcS (s := "rwx") (fun _ => true) (fun _ => V.int (c : Nat)) ev_c (by rw [rwx_size.1]; decide) (fun _ => rfl) (fun _ _ _ _ _ => et_yes) (fun j ch H11 e11 hch _ => ?_)) (by rw [rwx_size.1]; rfl)) (el_rep3 (el_lst (vs := [.int (c : Nat)]) (ea_cons (ev_var rfl) ea_nil) (by show 1 ≤ 100000; decide))) fun q1 q2 H11 h1 h2 _ => rv_neNums (K := K) h1 h2)) (by simp)) (fun z => nomatch z) fun _ H11 e11 => ?_
        · have hj : j < 3 := by
            have := (Array.getElem?_eq_some_iff.mp hch).1
            rw [rwx_size.1] at this
            exact this
          obtain ⟨_, s2, s3⟩ := let_sign j hj
          rw [s3] at hch
          cases hch
          rw [s2]
          refine' ev_is (v := .int (patN (uni c) (wtN j) : Nat)) (ev_mpatM (K := K) (em_uniform (a := a) (ev_var rfl) hc) (ev_var rfl) ult hj) (congrArg (fun (m : Nat) => V.int (m : Int)) ?_)
          match j, hj with
          | 0, _ => exact u4
          | 1, _ => exact u2
          | 2, _ => exact u1
        have bag11 := bag10.keep e11
        have tab11 := tabs_keep tab10 e11
        have hmo11 := hmo10.mono e11
        clear e11 bag10 tab10 hmo10 hb
        refine ⟨by show 1 ≤ sizeLine; decide, fun t1 ht1 => ⟨by show 1 ≤ sizeLine; decide, fun l1 hl1 => ⟨by show 11 ≤ sizeLine; decide, fun od hod => ?_⟩⟩⟩
        have eo : Ex H11 (upd (upd (upd H11 t1 (.tup [.str "r"])) l1 (.lst [.str "r"])) od (.lst (oddAt t1 l1))) := ((Ex.new ht1).trans (Ex.new hl1)).trans (Ex.new hod)
        have ht1' : upd (upd (upd H11 t1 (.tup [.str "r"])) l1 (.lst [.str "r"])) od (.lst (oddAt t1 l1)) t1 = some (.tup [.str "r"]) := Ex.new hod _ _ (Ex.new hl1 _ _ upd_same)
        have hl1' : upd (upd (upd H11 t1 (.tup [.str "r"])) l1 (.lst [.str "r"])) od (.lst (oddAt t1 l1)) l1 = some (.lst [.str "r"]) := Ex.new hod _ _ upd_same
        have hod' : upd (upd (upd H11 t1 (.tup [.str "r"])) l1 (.lst [.str "r"])) od (.lst (oddAt t1 l1)) od = some (.lst (oddAt t1 l1)) := upd_same
        have bag12 := bag11.keep eo
        have tab12 := tabs_keep tab11 eo
        have hmo12 := hmo11.mono eo
        show tCall _ _ _ _ _ (upd (upd (upd H11 t1 (.tup [.str "r"])) l1 (.lst [.str "r"])) od (.lst (oddAt t1 l1))) _
        generalize upd (upd (upd H11 t1 (.tup [.str "r"])) l1 (.lst [.str "r"])) od (.lst (oddAt t1 l1)) = H12 at ht1' hl1' hod' bag12 tab12 hmo12
        clear eo ht1 hl1 hod bag11 tab11 hmo11
        refine draw_is 11 rfl bag12 (by decide) (by decide) fun d1 H13 hd1 e13 bag13 => ?_
        have s13 := Sd.ofB bag12 e13
        obtain ⟨x, hx, odd⟩ := odd_at (t := t1) (l := l1) (s13 _ _ ht1' (fun _ z => nomatch z) (fun _ z => nomatch z)) (s13 _ _ hl1' (fun _ z => nomatch z) (fun _ z => nomatch z)) d1 hd1
        refine ⟨od, _, (d1 : Nat), x, rfl, rfl, sq_of (s13 _ _ hod' (fun _ z => nomatch z) (fun _ z => nomatch z)), atI_nat hx, ?_⟩
        have tab13 := tabs_exB tab12 bag12 e13
        have hmo13 := hmo12.sd s13
        clear s13 e13 bag12 tab12 hmo12 ht1' hl1' hod' hx
        refine heard_pat (K := K) (a := a) tab13 rfl rfl hmo13 hn odd fun h1 H14 e14 tab14 hh1 => ?_
        have bag14 := bag13.keepN e14
        have hmo14 := hmo13.sd (Sd.ofN e14)
        have odd14 := odd.sd (Sd.ofN e14)
        refine ⟨by show 2 ≤ sizeLine; decide, fun q1 hq1 => ⟨.ref h1, .ref q1, rfl, sd_pair (Ex.new hq1 _ _ hh1) upd_same, fun H15 e15 => ⟨true, rfl, iteF ?_⟩⟩⟩
        have e145 := (Ex.new hq1).trans e15
        have bag15 := bag14.keep e145
        have tab15 := tabs_keep tab14 e145
        have hmo15 := hmo14.mono e145
        have odd15 := odd14.sd (Sd.of e145)
        clear e145 e15 e14 hq1 hh1 bag13 bag14 tab13 tab14 hmo13 hmo14 odd odd14
        refine ⟨1, rfl, 10, 30, rfl, rfl, ⟨by decide, by decide, by decide⟩, by show 1 ≤ sizeLine; decide, fun t2 ht2 => ⟨by show 7 ≤ sizeLine; decide, fun bd hbd => ?_⟩⟩
        have eo : Ex H15 (upd (upd H15 t2 (.tup [.int 5])) bd (.lst (badAt t2))) := (Ex.new ht2).trans (Ex.new hbd)
        have ht2' : upd (upd H15 t2 (.tup [.int 5])) bd (.lst (badAt t2)) t2 = some (.tup [.int 5]) := Ex.new hbd _ _ upd_same
        have hbd' : upd (upd H15 t2 (.tup [.int 5])) bd (.lst (badAt t2)) bd = some (.lst (badAt t2)) := upd_same
        have bag16 := bag15.keep eo
        have tab16 := tabs_keep tab15 eo
        have hmo16 := hmo15.mono eo
        have odd16 := odd15.sd (Sd.of eo)
        show tCall _ _ _ _ _ (upd (upd H15 t2 (.tup [.int 5])) bd (.lst (badAt t2))) _
        generalize upd (upd H15 t2 (.tup [.int 5])) bd (.lst (badAt t2)) = H16 at ht2' hbd' bag16 tab16 hmo16 odd16
        clear eo ht2 hbd bag15 tab15 hmo15 odd15
        refine draw_is 7 rfl bag16 (by decide) (by decide) fun d2 H17 hd2 e17 bag17 => ?_
        have s17 := Sd.ofB bag16 e17
        obtain ⟨y, hy, bad⟩ := bad_at (t := t2) (s17 _ _ ht2' (fun _ z => nomatch z) (fun _ z => nomatch z)) d2 hd2
        refine ⟨bd, _, (d2 : Nat), y, rfl, rfl, sq_of (s17 _ _ hbd' (fun _ z => nomatch z) (fun _ z => nomatch z)), atI_nat hy, ?_⟩
        have tab17 := tabs_exB tab16 bag16 e17
        have hmo17 := hmo16.sd s17
        have odd17 := odd16.sd s17
        clear s17 e17 bag16 tab16 hmo16 odd16 ht2' hbd' hy
        obtain ⟨l1', l2, _⟩ := let_sign at_ hat
        refine q_asg (v := .str (letS at_)) (ev_is (ev_op ev_c (ev_var rfl) (rv_ixS rwx_size.2 l1')) (congrArg V.str l2)) fun H18 e18 => ?_
        have bag18 := bag17.keep e18
        have hmo18 := hmo17.mono e18
        have bad18 := bad.sd (Sd.of e18)
        refine heard_withO (K := K) (a := a) (tabs_keep tab17 e18) rfl rfl rfl hmo18 hn (odd17.sd (Sd.of e18)) fun h2 H19 e19 tab19 hh2 => ⟨by show 1 ≤ sizeLine; decide, fun ll hll => ?_⟩
        have el : Ex H19 (upd H19 ll (.lst [.ref h2])) := Ex.new hll
        have hll' : upd H19 ll (.lst [.ref h2]) ll = some (.lst [.ref h2]) := upd_same
        have hh2' := el _ _ hh2
        have bag20 := (bag18.keepN e19).keep el
        have hmo20 := (hmo18.sd (Sd.ofN e19)).mono el
        have bad20 := (bad18.sd (Sd.ofN e19)).sd (Sd.of el)
        have tab20 := tabs_keep tab19 el
        generalize upd H19 ll (.lst [.ref h2]) = H20 at hll' hh2' bag20 hmo20 bad20 tab20
        clear el hll hh2 e19 tab19 bad18 hmo18 bag18 e18 tab17 hmo17 odd17 bad bag17
        refine ⟨.ref ll, rfl, .inl ⟨rfl, _, sq_of hll'⟩, heard_withB (K := K) (a := a) tab20 rfl rfl rfl hmo20 hn hat bad20 fun h3 H21 e21 tab21 hh3 => ⟨ll, [.ref h2], .ref h3, rfl, rfl, e21 _ _ hll' (fun _ z => nomatch z), by show 1 < sizeLine; decide, ?_⟩⟩
        have hll21 := e21 _ _ hll' (fun _ z => nomatch z)
        have n2 : h2 ≠ ll := ne_of hh2' hll' fun z => nomatch z
        have n3 : h3 ≠ ll := ne_of hh3 hll21 fun z => nomatch z
        have e22 : ∀ b o, H21 b = some o → b ≠ ll → upd H21 ll (.lst ([.ref h2] ++ [.ref h3])) b = some o := fun b o h ne => by rw [upd_ne ne]; exact h
        have hh2 : upd H21 ll (.lst ([.ref h2] ++ [.ref h3])) h2 = some (.tup [.str "mode", .str "letter"]) := e22 _ _ (e21 _ _ hh2' (fun _ z => nomatch z)) n2
        have hh3 : upd H21 ll (.lst ([.ref h2] ++ [.ref h3])) h3 = some (.tup [.str "mode", .str "pattern"]) := e22 _ _ hh3 n3
        have hll22 : upd H21 ll (.lst ([.ref h2] ++ [.ref h3])) ll = some (.lst [.ref h2, .ref h3]) := upd_same
        have bag22 : BagAt (upd H21 ll (.lst ([.ref h2] ++ [.ref h3]))) p := bag_app (bag20.keepN e21) hll21
        have tab22 : Tabs [(P0, qL)] (upd H21 ll (.lst ([.ref h2] ++ [.ref h3]))) := tab_app tab21 hll21
        generalize upd H21 ll (.lst ([.ref h2] ++ [.ref h3])) = H22 at hh2 hh3 hll22 bag22 tab22
        refine ⟨.ref ll, rfl, by show 2 ≤ sizeLine; decide, fun u1 hu1 => ⟨by show 2 ≤ sizeLine; decide, fun u2 hu2 => ⟨by show 2 ≤ sizeLine; decide, fun u3 hu3 => ?_⟩⟩⟩
        have x12 := (Ex.new hu1 (o := .tup [.str "mode", .str "letter"])).trans (Ex.new hu2 (o := .tup [.str "mode", .str "pattern"]))
        have x3 := Ex.new hu3 (o := .lst [.ref u1, .ref u2])
        have x13 := x12.trans x3
        refine ⟨.ref ll, .ref u3, rfl, SD.seq (n := 1) false (x13 _ _ hll22) upd_same rfl (by show 2 ≤ 1000; decide) (fun i' x' y' hx' hy' => ?_), fun H23 e23 => ⟨true, rfl, iteF ⟨_, _, _, _, _, _, _, _, _, _, rfl, bag22.keep (x13.trans e23), tabs_keep tab22 (x13.trans e23)⟩⟩⟩
        match i', hx', hy' with
        | 0, hx', hy' =>
          cases hx'
          cases hy'
          exact sd_pair (x13 _ _ hh2) (x3 _ _ (Ex.new hu2 _ _ upd_same))
        | 1, hx', hy' =>
          cases hx'
          cases hy'
          exact sd_pair (x13 _ _ hh3) (x3 _ _ upd_same)
    · obtain ⟨o2, o3, o4, o5, o6, o7, o8, o9, o10, o11, rfl, bag2, tab2⟩ := q
      exact k H2
end
end KZ
set_option Elab.async false
set_option linter.all false
set_option maxRecDepth 100000
set_option maxHeartbeats 4000000
namespace KZ
open PySem PySem.Spec PyProof.Rows L2 Evl
local macro_rules | `(tactic| walk_at "ev") => `(tactic| repeat' (first | exact ev_c | exact ev_var rfl | exact rv_I0 | refine' rv_I ?_ | refine' rv_eq ?_ | refine' rv_ne ?_ | refine' ev_op ?_ ?_ ?_ | exact ea_nil | refine' ea_cons ?_ ?_ | refine' et_test ?_ | refine' et_B ?_ | refine' et_not ?_ | refine' ev_notV ?_))

open PySem
theorem kit_self {K : PySem.W.Frag} {C : Addr} : PySem.W.kitOne K (.ref C) (.ref C) = some true := by
  unfold PySem.W.kitOne
  rw [if_pos (beq_iff_eq.mpr rfl)]
theorem kit_no {K : PySem.W.Frag} {C : Addr} {cd : PySem.ClassData} (ci : PySem.W.clsIn K C = some cd) (ti : PySem.W.typeIn K (.ref C) = some (.type "type")) (su : PySem.W.subIn K (.type "int") (.ref C) = some false) : PySem.W.kitOne K (.type "int") (.ref C) = some false := by
  unfold PySem.W.kitOne PySem.W.kitCls
  rw [if_neg (fun h => by have := beq_iff_eq.mp h; cases this)]
  show (if ((PySem.W.clsIn K C).isSome && PySem.W.typeIn K (.ref C) == some (.type "type")) = true then PySem.W.subIn K (.type "int") (.ref C) else none) = some false
  rw [if_pos (by rw [ci, ti]; simp), su]
theorem tup_at {K : PySem.W.Frag} {H : Hp} {k : Addr} {its : Array Value} {n : Nat} {od : Option Addr} {sl : Array (Option Value)} {xs : List V} (l : K.lookup k = some ⟨.type "tuple", od, .seq its n, sl⟩) (z : its.size ≤ sizeLine) (r : Vals xs its.toList) : SqT K H k xs := .inr ⟨_, its, n, l, rfl, rfl, z, r⟩
theorem kit_ref {K : PySem.W.Frag} {D B : Addr} {cd : PySem.ClassData} {b : Bool} (ci : PySem.W.clsIn K B = some cd) (ti : PySem.W.typeIn K (.ref B) = some (.type "type")) (su : PySem.W.subIn K (.ref D) (.ref B) = some b) (ne : D ≠ B) : PySem.W.kitOne K (.ref D) (.ref B) = some b := by
  unfold PySem.W.kitOne PySem.W.kitCls
  rw [if_neg (fun h => by have := beq_iff_eq.mp h; cases this; exact ne rfl)]
  show (if ((PySem.W.clsIn K B).isSome && PySem.W.typeIn K (.ref B) == some (.type "type")) = true then PySem.W.subIn K (.ref D) (.ref B) else none) = some b
  rw [if_pos (by rw [ci, ti]; simp), su]
theorem kit_ve {K : PySem.W.Frag} {D : Addr} {b : Bool} (su : PySem.W.subIn K (.ref D) (.type "ValueError") = some b) : PySem.W.kitOne K (.ref D) (.type "ValueError") = some b := by
  unfold PySem.W.kitOne PySem.W.kitCls
  rw [if_neg (fun h => by have := beq_iff_eq.mp h; cases this)]
  show (if PySem.W.kitMeta "ValueError" = true then PySem.W.subIn K (.ref D) (.type "ValueError") else none) = some b
  rw [if_pos (by decide +kernel), su]
theorem exm_ref {K : PySem.W.Frag} {D B : Addr} {cd : PySem.ClassData} {b : Bool} (ex : PySem.W.subIn K (.ref B) (.type "BaseException") = some true) (ci : PySem.W.clsIn K B = some cd) (ti : PySem.W.typeIn K (.ref B) = some (.type "type")) (su : PySem.W.subIn K (.ref D) (.ref B) = some b) : PySem.W.exmOne K (.ref D) (.ref B) = some b := by
  unfold PySem.W.exmOne PySem.W.kitCls
  rw [if_pos (by rw [ex]; rfl)]
  show (if ((PySem.W.clsIn K B).isSome && PySem.W.typeIn K (.ref B) == some (.type "type")) = true then PySem.W.subIn K (.ref D) (.ref B) else none) = some b
  rw [if_pos (by rw [ci, ti]; simp), su]
theorem all_mk {l : PySem.W.OpenLaw} {w : World} {K : PySem.W.Frag} {h : Heap} {mg : Str → Option Value} {fa : Addr} (X : K.In h) (G : h.Ns mainGlobals mg) (hfa : mg "law" = some (.ref fa))
    {f_weight_of f_is_whole f_is_whole_to f_pattern_in f_bits_of f_number_of f__law_bag f__law_draw f__law_same f__law_pattern f__law_with f__law_right f_law f_Mode f_ModeD_initD f_Mode_number p_Mode_number f_Mode_pattern f_Mode_with_pattern f_ModeD_eqD f_Mode_uniform p_Mode_uniform k_WEIGHTS x_BadMode x_BadInput x_NoWay x_BadText x_ModesError f_BadModeD_initD f__law_heard cA P0 : Addr}
    {od_weight_of : Option Addr} {an_weight_of : Option Addr} {sl_weight_of : Array (Option Value)} {oc_weight_of kV_weight_of dc_weight_of pm_weight_of ct_weight_of : Value} {cd_weight_of : Value} {od_is_whole : Option Addr} {an_is_whole : Option Addr} {sl_is_whole : Array (Option Value)} {oc_is_whole kV_is_whole dc_is_whole pm_is_whole ct_is_whole : Value} {cd_is_whole : Value} {od_is_whole_to : Option Addr} {an_is_whole_to : Option Addr} {sl_is_whole_to : Array (Option Value)} {oc_is_whole_to kV_is_whole_to dc_is_whole_to pm_is_whole_to ct_is_whole_to : Value} {cd_is_whole_to : Value} {od_pattern_in : Option Addr} {an_pattern_in : Option Addr} {sl_pattern_in : Array (Option Value)} {oc_pattern_in kV_pattern_in dc_pattern_in pm_pattern_in ct_pattern_in : Value} {cd_pattern_in : Value} {od_bits_of : Option Addr} {an_bits_of : Option Addr} {sl_bits_of : Array (Option Value)} {oc_bits_of kV_bits_of dc_bits_of pm_bits_of ct_bits_of : Value} {cd_bits_of : Value} {od_number_of : Option Addr} {an_number_of : Option Addr} {sl_number_of : Array (Option Value)} {oc_number_of kV_number_of dc_number_of pm_number_of ct_number_of : Value} {cd_number_of : Value} {od__law_bag : Option Addr} {an__law_bag : Option Addr} {sl__law_bag : Array (Option Value)} {oc__law_bag kV__law_bag dc__law_bag pm__law_bag ct__law_bag : Value} {cd__law_bag : Value} {od__law_draw : Option Addr} {an__law_draw : Option Addr} {sl__law_draw : Array (Option Value)} {oc__law_draw kV__law_draw dc__law_draw pm__law_draw ct__law_draw : Value} {cd__law_draw : Value} {od__law_same : Option Addr} {an__law_same : Option Addr} {sl__law_same : Array (Option Value)} {oc__law_same kV__law_same dc__law_same pm__law_same ct__law_same : Value} {cd__law_same : Value} {od__law_pattern : Option Addr} {an__law_pattern : Option Addr} {sl__law_pattern : Array (Option Value)} {oc__law_pattern kV__law_pattern dc__law_pattern pm__law_pattern ct__law_pattern : Value} {cd__law_pattern : Value} {od__law_with : Option Addr} {an__law_with : Option Addr} {sl__law_with : Array (Option Value)} {oc__law_with kV__law_with dc__law_with pm__law_with ct__law_with : Value} {cd__law_with : Value} {od__law_right : Option Addr} {an__law_right : Option Addr} {sl__law_right : Array (Option Value)} {oc__law_right kV__law_right dc__law_right pm__law_right ct__law_right : Value} {cd__law_right : Value} {od_law : Option Addr} {an_law : Option Addr} {sl_law : Array (Option Value)} {oc_law kV_law dc_law pm_law ct_law : Value} {od_ModeD_initD : Option Addr} {an_ModeD_initD : Option Addr} {sl_ModeD_initD : Array (Option Value)} {oc_ModeD_initD kV_ModeD_initD dc_ModeD_initD pm_ModeD_initD ct_ModeD_initD : Value} {cd_ModeD_initD : Value} {re_Mode_number : List Value} {od_Mode_number : Option Addr} {an_Mode_number : Option Addr} {sl_Mode_number : Array (Option Value)} {oc_Mode_number kV_Mode_number dc_Mode_number pm_Mode_number ct_Mode_number : Value} {cd_Mode_number : Value} {od_Mode_pattern : Option Addr} {an_Mode_pattern : Option Addr} {sl_Mode_pattern : Array (Option Value)} {oc_Mode_pattern kV_Mode_pattern dc_Mode_pattern pm_Mode_pattern ct_Mode_pattern : Value} {cd_Mode_pattern : Value} {od_Mode_with_pattern : Option Addr} {an_Mode_with_pattern : Option Addr} {sl_Mode_with_pattern : Array (Option Value)} {oc_Mode_with_pattern kV_Mode_with_pattern dc_Mode_with_pattern pm_Mode_with_pattern ct_Mode_with_pattern : Value} {cd_Mode_with_pattern : Value} {od_ModeD_eqD : Option Addr} {an_ModeD_eqD : Option Addr} {sl_ModeD_eqD : Array (Option Value)} {oc_ModeD_eqD kV_ModeD_eqD dc_ModeD_eqD pm_ModeD_eqD ct_ModeD_eqD : Value} {cd_ModeD_eqD : Value} {tk_Mode_MOST : Tok} {re_Mode_uniform : List Value} {od_Mode_uniform : Option Addr} {an_Mode_uniform : Option Addr} {sl_Mode_uniform : Array (Option Value)} {oc_Mode_uniform kV_Mode_uniform dc_Mode_uniform pm_Mode_uniform ct_Mode_uniform : Value} {cd_Mode_uniform : Value} {cd_Mode : PySem.ClassData} {es_WG : Array DictEntry} {n_WG : Nat} {tkr tkw tkx : Tok} {nmB qB : Str} {NB : Addr} {bsB bmB : List Value} {snB : List Str} {subB : List Value} {abB : Bool} {colB : Option Bool} {ddB : Option Addr} {m0B m1B m2B m3B m5B : Option Value} {od_BadModeD_initD : Option Addr} {an_BadModeD_initD : Option Addr} {sl_BadModeD_initD : Array (Option Value)} {oc_BadModeD_initD kV_BadModeD_initD dc_BadModeD_initD pm_BadModeD_initD ct_BadModeD_initD : Value} {cd_BadModeD_initD : Value} {cdx_BadInput : PySem.ClassData} {cdx_NoWay : PySem.ClassData} {cdx_BadText : PySem.ClassData} {cdx_ModesError : PySem.ClassData} {od__law_heard : Option Addr} {an__law_heard : Option Addr} {sl__law_heard : Array (Option Value)} {oc__law_heard kV__law_heard dc__law_heard pm__law_heard ct__law_heard : Value} {cd__law_heard : Value} {odC : Option Addr} {vsC : Array Value} {slC : Array (Option Value)}
    (z_ValueError : PySem.W.nsIn K mainGlobals "ValueError" = some none)
    (z_isinstance : PySem.W.nsIn K mainGlobals "isinstance" = some none)
    (z_int : PySem.W.nsIn K mainGlobals "int" = some none)
    (z_bool : PySem.W.nsIn K mainGlobals "bool" = some none)
    (z_str : PySem.W.nsIn K mainGlobals "str" = some none)
    (z_list : PySem.W.nsIn K mainGlobals "list" = some none)
    (z_len : PySem.W.nsIn K mainGlobals "len" = some none)
    (z_abs : PySem.W.nsIn K mainGlobals "abs" = some none)
    (z_range : PySem.W.nsIn K mainGlobals "range" = some none)
    (z_tuple : PySem.W.nsIn K mainGlobals "tuple" = some none)
    (a_weight_of : PySem.W.nsIn K mainGlobals "weight_of" = some (some (.ref f_weight_of)))
    (l_weight_of : K.lookup f_weight_of = some ⟨oc_weight_of, od_weight_of, .func (PySem.W.fnOf "weight_of" "weight_of" (defArgs s_weight_of) (defBody s_weight_of) (defScope s_weight_of) .none kV_weight_of dc_weight_of pm_weight_of an_weight_of cd_weight_of ct_weight_of), sl_weight_of⟩)
    (co_weight_of : PySem.W.codeIn K cd_weight_of "weight_of" = true)
    (kp_weight_of : PySem.W.keepIn K (.ref f_weight_of) = true)
    (a_is_whole : PySem.W.nsIn K mainGlobals "is_whole" = some (some (.ref f_is_whole)))
    (l_is_whole : K.lookup f_is_whole = some ⟨oc_is_whole, od_is_whole, .func (PySem.W.fnOf "is_whole" "is_whole" (defArgs s_is_whole) (defBody s_is_whole) (defScope s_is_whole) .none kV_is_whole dc_is_whole pm_is_whole an_is_whole cd_is_whole ct_is_whole), sl_is_whole⟩)
    (co_is_whole : PySem.W.codeIn K cd_is_whole "is_whole" = true)
    (kp_is_whole : PySem.W.keepIn K (.ref f_is_whole) = true)
    (a_is_whole_to : PySem.W.nsIn K mainGlobals "is_whole_to" = some (some (.ref f_is_whole_to)))
    (l_is_whole_to : K.lookup f_is_whole_to = some ⟨oc_is_whole_to, od_is_whole_to, .func (PySem.W.fnOf "is_whole_to" "is_whole_to" (defArgs s_is_whole_to) (defBody s_is_whole_to) (defScope s_is_whole_to) .none kV_is_whole_to dc_is_whole_to pm_is_whole_to an_is_whole_to cd_is_whole_to ct_is_whole_to), sl_is_whole_to⟩)
    (co_is_whole_to : PySem.W.codeIn K cd_is_whole_to "is_whole_to" = true)
    (kp_is_whole_to : PySem.W.keepIn K (.ref f_is_whole_to) = true)
    (a_pattern_in : PySem.W.nsIn K mainGlobals "pattern_in" = some (some (.ref f_pattern_in)))
    (l_pattern_in : K.lookup f_pattern_in = some ⟨oc_pattern_in, od_pattern_in, .func (PySem.W.fnOf "pattern_in" "pattern_in" (defArgs s_pattern_in) (defBody s_pattern_in) (defScope s_pattern_in) .none kV_pattern_in dc_pattern_in pm_pattern_in an_pattern_in cd_pattern_in ct_pattern_in), sl_pattern_in⟩)
    (co_pattern_in : PySem.W.codeIn K cd_pattern_in "pattern_in" = true)
    (kp_pattern_in : PySem.W.keepIn K (.ref f_pattern_in) = true)
    (a_bits_of : PySem.W.nsIn K mainGlobals "bits_of" = some (some (.ref f_bits_of)))
    (l_bits_of : K.lookup f_bits_of = some ⟨oc_bits_of, od_bits_of, .func (PySem.W.fnOf "bits_of" "bits_of" (defArgs s_bits_of) (defBody s_bits_of) (defScope s_bits_of) .none kV_bits_of dc_bits_of pm_bits_of an_bits_of cd_bits_of ct_bits_of), sl_bits_of⟩)
    (co_bits_of : PySem.W.codeIn K cd_bits_of "bits_of" = true)
    (kp_bits_of : PySem.W.keepIn K (.ref f_bits_of) = true)
    (a_number_of : PySem.W.nsIn K mainGlobals "number_of" = some (some (.ref f_number_of)))
    (l_number_of : K.lookup f_number_of = some ⟨oc_number_of, od_number_of, .func (PySem.W.fnOf "number_of" "number_of" (defArgs s_number_of) (defBody s_number_of) (defScope s_number_of) .none kV_number_of dc_number_of pm_number_of an_number_of cd_number_of ct_number_of), sl_number_of⟩)
    (co_number_of : PySem.W.codeIn K cd_number_of "number_of" = true)
    (kp_number_of : PySem.W.keepIn K (.ref f_number_of) = true)
    (a__law_bag : PySem.W.nsIn K mainGlobals "_law_bag" = some (some (.ref f__law_bag)))
    (l__law_bag : K.lookup f__law_bag = some ⟨oc__law_bag, od__law_bag, .func (PySem.W.fnOf "_law_bag" "_law_bag" (defArgs s__law_bag) (defBody s__law_bag) (defScope s__law_bag) .none kV__law_bag dc__law_bag pm__law_bag an__law_bag cd__law_bag ct__law_bag), sl__law_bag⟩)
    (co__law_bag : PySem.W.codeIn K cd__law_bag "_law_bag" = true)
    (kp__law_bag : PySem.W.keepIn K (.ref f__law_bag) = true)
    (a__law_draw : PySem.W.nsIn K mainGlobals "_law_draw" = some (some (.ref f__law_draw)))
    (l__law_draw : K.lookup f__law_draw = some ⟨oc__law_draw, od__law_draw, .func (PySem.W.fnOf "_law_draw" "_law_draw" (defArgs s__law_draw) (defBody s__law_draw) (defScope s__law_draw) .none kV__law_draw dc__law_draw pm__law_draw an__law_draw cd__law_draw ct__law_draw), sl__law_draw⟩)
    (co__law_draw : PySem.W.codeIn K cd__law_draw "_law_draw" = true)
    (kp__law_draw : PySem.W.keepIn K (.ref f__law_draw) = true)
    (a__law_same : PySem.W.nsIn K mainGlobals "_law_same" = some (some (.ref f__law_same)))
    (l__law_same : K.lookup f__law_same = some ⟨oc__law_same, od__law_same, .func (PySem.W.fnOf "_law_same" "_law_same" (defArgs s__law_same) (defBody s__law_same) (defScope s__law_same) .none kV__law_same dc__law_same pm__law_same an__law_same cd__law_same ct__law_same), sl__law_same⟩)
    (co__law_same : PySem.W.codeIn K cd__law_same "_law_same" = true)
    (kp__law_same : PySem.W.keepIn K (.ref f__law_same) = true)
    (a__law_pattern : PySem.W.nsIn K mainGlobals "_law_pattern" = some (some (.ref f__law_pattern)))
    (l__law_pattern : K.lookup f__law_pattern = some ⟨oc__law_pattern, od__law_pattern, .func (PySem.W.fnOf "_law_pattern" "_law_pattern" (defArgs s__law_pattern) (defBody s__law_pattern) (defScope s__law_pattern) .none kV__law_pattern dc__law_pattern pm__law_pattern an__law_pattern cd__law_pattern ct__law_pattern), sl__law_pattern⟩)
    (co__law_pattern : PySem.W.codeIn K cd__law_pattern "_law_pattern" = true)
    (kp__law_pattern : PySem.W.keepIn K (.ref f__law_pattern) = true)
    (a__law_with : PySem.W.nsIn K mainGlobals "_law_with" = some (some (.ref f__law_with)))
    (l__law_with : K.lookup f__law_with = some ⟨oc__law_with, od__law_with, .func (PySem.W.fnOf "_law_with" "_law_with" (defArgs s__law_with) (defBody s__law_with) (defScope s__law_with) .none kV__law_with dc__law_with pm__law_with an__law_with cd__law_with ct__law_with), sl__law_with⟩)
    (co__law_with : PySem.W.codeIn K cd__law_with "_law_with" = true)
    (kp__law_with : PySem.W.keepIn K (.ref f__law_with) = true)
    (a__law_right : PySem.W.nsIn K mainGlobals "_law_right" = some (some (.ref f__law_right)))
    (l__law_right : K.lookup f__law_right = some ⟨oc__law_right, od__law_right, .func (PySem.W.fnOf "_law_right" "_law_right" (defArgs s__law_right) (defBody s__law_right) (defScope s__law_right) .none kV__law_right dc__law_right pm__law_right an__law_right cd__law_right ct__law_right), sl__law_right⟩)
    (co__law_right : PySem.W.codeIn K cd__law_right "_law_right" = true)
    (kp__law_right : PySem.W.keepIn K (.ref f__law_right) = true)
    (a_law : PySem.W.nsIn K mainGlobals "law" = some (some (.ref f_law)))
    (l_law : K.lookup f_law = some ⟨oc_law, od_law, .func (PySem.W.fnOf "law" "law" (defArgs s_law) (defBody s_law) (defScope s_law) .none kV_law dc_law pm_law an_law (.ref cA) ct_law), sl_law⟩)
    (co_law : PySem.W.codeIn K (.ref cA) "law" = true)
    (kp_law : PySem.W.keepIn K (.ref f_law) = true)
    (a_Mode : PySem.W.nsIn K mainGlobals "Mode" = some (some (.ref f_Mode)))
    (pg_Mode : PySem.W.plainGet K f_Mode Str.empty = true)
    (hd_Mode : PySem.W.hasDictIn K f_Mode = true)
    (po_Mode : PySem.W.plainOver K f_Mode = true)
    (sa_Mode : PySem.W.findIn K (.ref f_Mode) "__setattr__" = some (some (.builtin "object.__setattr__")))
    (n_number_Mode : PySem.W.findIn K (.ref f_Mode) "_number" = some none)
    (at_ModeD_initD : PySem.W.findIn K (.ref f_Mode) "__init__" = some (some (.ref f_ModeD_initD)))
    (fi_ModeD_initD : PySem.W.isFn K (.ref f_ModeD_initD) = true)
    (l_ModeD_initD : K.lookup f_ModeD_initD = some ⟨oc_ModeD_initD, od_ModeD_initD, .func (PySem.W.fnOf "__init__" "Mode.__init__" (defArgs s_ModeD_initD) (defBody s_ModeD_initD) (defScope s_ModeD_initD) .none kV_ModeD_initD dc_ModeD_initD pm_ModeD_initD an_ModeD_initD cd_ModeD_initD ct_ModeD_initD), sl_ModeD_initD⟩)
    (co_ModeD_initD : PySem.W.codeIn K cd_ModeD_initD "Mode.__init__" = true)
    (kp_ModeD_initD : PySem.W.keepIn K (.ref f_ModeD_initD) = true)
    (mk_Mode : PySem.W.makesIn K f_Mode = true)
    (kc_Mode : PySem.W.keepIn K (.ref f_Mode) = true)
    (at_Mode_number : PySem.W.findIn K (.ref f_Mode) "number" = some (some (.ref p_Mode_number)))
    (ge_Mode_number : PySem.W.specialIn K (.ref p_Mode_number) "__get__" = some (some (.builtin "property.__get__")))
    (ta_Mode_number : PySem.W.takesIn K (.ref p_Mode_number) = some true)
    (rc_Mode_number : PySem.W.recIn K p_Mode_number "property" = some (.ref f_Mode_number :: re_Mode_number))
    (l_Mode_number : K.lookup f_Mode_number = some ⟨oc_Mode_number, od_Mode_number, .func (PySem.W.fnOf "number" "Mode.number" (defArgs s_Mode_number) (defBody s_Mode_number) (defScope s_Mode_number) .none kV_Mode_number dc_Mode_number pm_Mode_number an_Mode_number cd_Mode_number ct_Mode_number), sl_Mode_number⟩)
    (co_Mode_number : PySem.W.codeIn K cd_Mode_number "Mode.number" = true)
    (kp_Mode_number : PySem.W.keepIn K (.ref f_Mode_number) = true)
    (at_Mode_pattern : PySem.W.findIn K (.ref f_Mode) "pattern" = some (some (.ref f_Mode_pattern)))
    (fi_Mode_pattern : PySem.W.isFn K (.ref f_Mode_pattern) = true)
    (l_Mode_pattern : K.lookup f_Mode_pattern = some ⟨oc_Mode_pattern, od_Mode_pattern, .func (PySem.W.fnOf "pattern" "Mode.pattern" (defArgs s_Mode_pattern) (defBody s_Mode_pattern) (defScope s_Mode_pattern) .none kV_Mode_pattern dc_Mode_pattern pm_Mode_pattern an_Mode_pattern cd_Mode_pattern ct_Mode_pattern), sl_Mode_pattern⟩)
    (co_Mode_pattern : PySem.W.codeIn K cd_Mode_pattern "Mode.pattern" = true)
    (kp_Mode_pattern : PySem.W.keepIn K (.ref f_Mode_pattern) = true)
    (at_Mode_with_pattern : PySem.W.findIn K (.ref f_Mode) "with_pattern" = some (some (.ref f_Mode_with_pattern)))
    (fi_Mode_with_pattern : PySem.W.isFn K (.ref f_Mode_with_pattern) = true)
    (l_Mode_with_pattern : K.lookup f_Mode_with_pattern = some ⟨oc_Mode_with_pattern, od_Mode_with_pattern, .func (PySem.W.fnOf "with_pattern" "Mode.with_pattern" (defArgs s_Mode_with_pattern) (defBody s_Mode_with_pattern) (defScope s_Mode_with_pattern) .none kV_Mode_with_pattern dc_Mode_with_pattern pm_Mode_with_pattern an_Mode_with_pattern cd_Mode_with_pattern ct_Mode_with_pattern), sl_Mode_with_pattern⟩)
    (co_Mode_with_pattern : PySem.W.codeIn K cd_Mode_with_pattern "Mode.with_pattern" = true)
    (kp_Mode_with_pattern : PySem.W.keepIn K (.ref f_Mode_with_pattern) = true)
    (at_ModeD_eqD : PySem.W.findIn K (.ref f_Mode) "__eq__" = some (some (.ref f_ModeD_eqD)))
    (fi_ModeD_eqD : PySem.W.isFn K (.ref f_ModeD_eqD) = true)
    (l_ModeD_eqD : K.lookup f_ModeD_eqD = some ⟨oc_ModeD_eqD, od_ModeD_eqD, .func (PySem.W.fnOf "__eq__" "Mode.__eq__" (defArgs s_ModeD_eqD) (defBody s_ModeD_eqD) (defScope s_ModeD_eqD) .none kV_ModeD_eqD dc_ModeD_eqD pm_ModeD_eqD an_ModeD_eqD cd_ModeD_eqD ct_ModeD_eqD), sl_ModeD_eqD⟩)
    (co_ModeD_eqD : PySem.W.codeIn K cd_ModeD_eqD "Mode.__eq__" = true)
    (kp_ModeD_eqD : PySem.W.keepIn K (.ref f_ModeD_eqD) = true)
    (rd_Mode : PySem.W.readsIn K f_Mode (.type "type") = true)
    (ga_Mode : PySem.W.specialIn K (.ref f_Mode) "__getattribute__" = some (some (.builtin "type.__getattribute__")))
    (cv_Mode_MOST : PySem.W.findCls K (.ref f_Mode) (.type "type") "MOST" = some (.val (.int 511 tk_Mode_MOST)))
    (at_Mode_uniform : PySem.W.findCls K (.ref f_Mode) (.type "type") "uniform" = some (.get (.builtin "staticmethod.__get__") (.ref p_Mode_uniform) .none (.ref f_Mode)))
    (rc_Mode_uniform : PySem.W.recIn K p_Mode_uniform "staticmethod" = some (.ref f_Mode_uniform :: re_Mode_uniform))
    (l_Mode_uniform : K.lookup f_Mode_uniform = some ⟨oc_Mode_uniform, od_Mode_uniform, .func (PySem.W.fnOf "uniform" "Mode.uniform" (defArgs s_Mode_uniform) (defBody s_Mode_uniform) (defScope s_Mode_uniform) .none kV_Mode_uniform dc_Mode_uniform pm_Mode_uniform an_Mode_uniform cd_Mode_uniform ct_Mode_uniform), sl_Mode_uniform⟩)
    (co_Mode_uniform : PySem.W.codeIn K cd_Mode_uniform "Mode.uniform" = true)
    (kp_Mode_uniform : PySem.W.keepIn K (.ref f_Mode_uniform) = true)
    (ia_Mode : PySem.W.findIn K (.ref f_Mode) "__class__" = some (some (.builtin "object.__class__")))
    (im_Mode : PySem.W.mroIn K f_Mode (.type "object") = some true)
    (ci_Mode : PySem.W.clsIn K f_Mode = some cd_Mode)
    (ti_Mode : PySem.W.typeIn K (.ref f_Mode) = some (.type "type"))
    (su_Mode : PySem.W.subIn K (.type "int") (.ref f_Mode) = some false)
    (in0 : PySem.W.specialIn K (.builtin "object.__class__") "__get__" = some (some (.builtin "getset_descriptor.__get__")))
    (it0 : PySem.W.takesIn K (.builtin "object.__class__") = some true)
    (nf_Mode : PySem.W.notFirst K f_Mode (.ref f_Mode) = true)
    (a_WEIGHTS : PySem.W.nsIn K mainGlobals "WEIGHTS" = some (some (.ref k_WEIGHTS)))
    (ld_WG : K.lookup k_WEIGHTS = some ⟨.type "dict", none, .dict es_WG n_WG, #[]⟩)
    (kl_WG : PySem.W.KeysLit w.params es_WG.toList)
    (lw_WG : (k_WEIGHTS == sysModules) = false)
    (er_WG : PySem.W.nsIn K k_WEIGHTS "r" = some (some (.int 4 tkr)))
    (ew_WG : PySem.W.nsIn K k_WEIGHTS "w" = some (some (.int 2 tkw)))
    (ex_WG : PySem.W.nsIn K k_WEIGHTS "x" = some (some (.int 1 tkx)))
    (o0_WG : PySem.W.nsIn K k_WEIGHTS "" = some none)
    (o1_WG : PySem.W.nsIn K k_WEIGHTS "R" = some none)
    (o2_WG : PySem.W.nsIn K k_WEIGHTS "X" = some none)
    (o3_WG : PySem.W.nsIn K k_WEIGHTS "rw" = some none)
    (o4_WG : PySem.W.nsIn K k_WEIGHTS "u" = some none)
    (o5_WG : PySem.W.nsIn K k_WEIGHTS "r " = some none)
    (a_BadMode : PySem.W.nsIn K mainGlobals "BadMode" = some (some (.ref x_BadMode)))
    (a_BadInput : PySem.W.nsIn K mainGlobals "BadInput" = some (some (.ref x_BadInput)))
    (a_NoWay : PySem.W.nsIn K mainGlobals "NoWay" = some (some (.ref x_NoWay)))
    (a_BadText : PySem.W.nsIn K mainGlobals "BadText" = some (some (.ref x_BadText)))
    (a_ModesError : PySem.W.nsIn K mainGlobals "ModesError" = some (some (.ref x_ModesError)))
    (xl_B : K.lookup x_BadMode = some (excClassObj nmB qB x_BadMode NB bsB bmB true snB subB abB colB ddB m0B m1B m2B m3B m5B "ValueError.__new__"))
    (rf_B : PySem.HandSPX.refsVE bmB = true)
    (sa_B : PySem.W.findIn K (.ref x_BadMode) "__setattr__" = some (some (.builtin "object.__setattr__")))
    (ex_B : PySem.W.subIn K (.ref x_BadMode) (.type "BaseException") = some true)
    (ty_B : PySem.W.typeIn K (.ref x_BadMode) = some (.type "type"))
    (kp_B : PySem.W.keepIn K (.ref x_BadMode) = true)
    (ga_B : PySem.W.findIn K (.ref x_BadMode) "__getattribute__" = some (some (.builtin "BaseException.__getattribute__")))
    (gg_B : PySem.W.findIn K (.ref x_BadMode) "__getattr__" = some none)
    (hd_B : PySem.W.hasDictIn K x_BadMode = true)
    (cc_B : PySem.W.findIn K (.ref x_BadMode) "__class__" = some (some (.builtin "object.__class__")))
    (mr_B : PySem.W.mroIn K x_BadMode (.type "object") = some true)
    (np_B : PySem.W.findIn K (.ref x_BadMode) "part" = some none)
    (in_B : PySem.W.findIn K (.ref x_BadMode) "__init__" = some (some (.ref f_BadModeD_initD)))
    (ti_B : PySem.W.typeIn K (.ref f_BadModeD_initD) = some (.type "function"))
    (l_BadModeD_initD : K.lookup f_BadModeD_initD = some ⟨oc_BadModeD_initD, od_BadModeD_initD, .func (PySem.W.fnOf "__init__" "BadMode.__init__" (defArgs s_BadModeD_initD) (defBody s_BadModeD_initD) (defScope s_BadModeD_initD) .none kV_BadModeD_initD dc_BadModeD_initD pm_BadModeD_initD an_BadModeD_initD cd_BadModeD_initD ct_BadModeD_initD), sl_BadModeD_initD⟩)
    (co_BadModeD_initD : PySem.W.codeIn K cd_BadModeD_initD "BadMode.__init__" = true)
    (kp_BadModeD_initD : PySem.W.keepIn K (.ref f_BadModeD_initD) = true)
    (cix_BadInput : PySem.W.clsIn K x_BadInput = some cdx_BadInput)
    (tix_BadInput : PySem.W.typeIn K (.ref x_BadInput) = some (.type "type"))
    (cix_NoWay : PySem.W.clsIn K x_NoWay = some cdx_NoWay)
    (tix_NoWay : PySem.W.typeIn K (.ref x_NoWay) = some (.type "type"))
    (cix_BadText : PySem.W.clsIn K x_BadText = some cdx_BadText)
    (tix_BadText : PySem.W.typeIn K (.ref x_BadText) = some (.type "type"))
    (cix_ModesError : PySem.W.clsIn K x_ModesError = some cdx_ModesError)
    (tix_ModesError : PySem.W.typeIn K (.ref x_ModesError) = some (.type "type"))
    (sux_BadInput : PySem.W.subIn K (.ref x_BadMode) (.ref x_BadInput) = some true)
    (nex_BadInput : x_BadMode ≠ x_BadInput)
    (sux_NoWay : PySem.W.subIn K (.ref x_BadMode) (.ref x_NoWay) = some false)
    (nex_NoWay : x_BadMode ≠ x_NoWay)
    (sux_BadText : PySem.W.subIn K (.ref x_BadMode) (.ref x_BadText) = some false)
    (nex_BadText : x_BadMode ≠ x_BadText)
    (suv_B : PySem.W.subIn K (.ref x_BadMode) (.type "ValueError") = some true)
    (bex_ME : PySem.W.subIn K (.ref x_ModesError) (.type "BaseException") = some true)
    (sux_ME : PySem.W.subIn K (.ref x_BadMode) (.ref x_ModesError) = some true)
    (a__law_heard : PySem.W.nsIn K mainGlobals "_law_heard" = some (some (.ref f__law_heard)))
    (l__law_heard : K.lookup f__law_heard = some ⟨oc__law_heard, od__law_heard, .func (PySem.W.fnOf "_law_heard" "_law_heard" (defArgs s__law_heard) (defBody s__law_heard) (defScope s__law_heard) .none kV__law_heard dc__law_heard pm__law_heard an__law_heard cd__law_heard ct__law_heard), sl__law_heard⟩)
    (co__law_heard : PySem.W.codeIn K cd__law_heard "_law_heard" = true)
    (kp__law_heard : PySem.W.keepIn K (.ref f__law_heard) = true)
    (lc_P0 : K.lookup cA = some ⟨.type "code", odC, .fields vsC, slC⟩)
    (v11_P0 : vsC[11]? = some (.ref P0))
    (ch_P0 : PySem.W.codeHdIn K cA P0 = true)
    (kl_P0 : K.lookup P0 = none)
    (tb_P0 : h.get? P0 = some { cls := .none, data := .fields #[] })
    : LamX.LawAtS l w K CX0 13 63 "_law_script" mg fa h := by
  have e := hfa.symm.trans (PySem.W.mg_of X G a_law)
  obtain rfl : f_law = fa := by cases e; rfl
  have T : Txt w K mg { f_weight_of := f_weight_of, d_weight_of := PySem.W.fnOf "weight_of" "weight_of" (defArgs s_weight_of) (defBody s_weight_of) (defScope s_weight_of) .none kV_weight_of dc_weight_of pm_weight_of an_weight_of cd_weight_of ct_weight_of, f_is_whole := f_is_whole, d_is_whole := PySem.W.fnOf "is_whole" "is_whole" (defArgs s_is_whole) (defBody s_is_whole) (defScope s_is_whole) .none kV_is_whole dc_is_whole pm_is_whole an_is_whole cd_is_whole ct_is_whole, f_is_whole_to := f_is_whole_to, d_is_whole_to := PySem.W.fnOf "is_whole_to" "is_whole_to" (defArgs s_is_whole_to) (defBody s_is_whole_to) (defScope s_is_whole_to) .none kV_is_whole_to dc_is_whole_to pm_is_whole_to an_is_whole_to cd_is_whole_to ct_is_whole_to, f_pattern_in := f_pattern_in, d_pattern_in := PySem.W.fnOf "pattern_in" "pattern_in" (defArgs s_pattern_in) (defBody s_pattern_in) (defScope s_pattern_in) .none kV_pattern_in dc_pattern_in pm_pattern_in an_pattern_in cd_pattern_in ct_pattern_in, f_bits_of := f_bits_of, d_bits_of := PySem.W.fnOf "bits_of" "bits_of" (defArgs s_bits_of) (defBody s_bits_of) (defScope s_bits_of) .none kV_bits_of dc_bits_of pm_bits_of an_bits_of cd_bits_of ct_bits_of, f_number_of := f_number_of, d_number_of := PySem.W.fnOf "number_of" "number_of" (defArgs s_number_of) (defBody s_number_of) (defScope s_number_of) .none kV_number_of dc_number_of pm_number_of an_number_of cd_number_of ct_number_of, f__law_bag := f__law_bag, d__law_bag := PySem.W.fnOf "_law_bag" "_law_bag" (defArgs s__law_bag) (defBody s__law_bag) (defScope s__law_bag) .none kV__law_bag dc__law_bag pm__law_bag an__law_bag cd__law_bag ct__law_bag, f__law_draw := f__law_draw, d__law_draw := PySem.W.fnOf "_law_draw" "_law_draw" (defArgs s__law_draw) (defBody s__law_draw) (defScope s__law_draw) .none kV__law_draw dc__law_draw pm__law_draw an__law_draw cd__law_draw ct__law_draw, f__law_same := f__law_same, d__law_same := PySem.W.fnOf "_law_same" "_law_same" (defArgs s__law_same) (defBody s__law_same) (defScope s__law_same) .none kV__law_same dc__law_same pm__law_same an__law_same cd__law_same ct__law_same, f__law_pattern := f__law_pattern, d__law_pattern := PySem.W.fnOf "_law_pattern" "_law_pattern" (defArgs s__law_pattern) (defBody s__law_pattern) (defScope s__law_pattern) .none kV__law_pattern dc__law_pattern pm__law_pattern an__law_pattern cd__law_pattern ct__law_pattern, f__law_with := f__law_with, d__law_with := PySem.W.fnOf "_law_with" "_law_with" (defArgs s__law_with) (defBody s__law_with) (defScope s__law_with) .none kV__law_with dc__law_with pm__law_with an__law_with cd__law_with ct__law_with, f__law_right := f__law_right, d__law_right := PySem.W.fnOf "_law_right" "_law_right" (defArgs s__law_right) (defBody s__law_right) (defScope s__law_right) .none kV__law_right dc__law_right pm__law_right an__law_right cd__law_right ct__law_right, f_law := f_law, d_law := PySem.W.fnOf "law" "law" (defArgs s_law) (defBody s_law) (defScope s_law) .none kV_law dc_law pm_law an_law (.ref cA) ct_law, f_Mode := f_Mode, f_ModeD_initD := f_ModeD_initD, d_ModeD_initD := PySem.W.fnOf "__init__" "Mode.__init__" (defArgs s_ModeD_initD) (defBody s_ModeD_initD) (defScope s_ModeD_initD) .none kV_ModeD_initD dc_ModeD_initD pm_ModeD_initD an_ModeD_initD cd_ModeD_initD ct_ModeD_initD, f_Mode_number := f_Mode_number, d_Mode_number := PySem.W.fnOf "number" "Mode.number" (defArgs s_Mode_number) (defBody s_Mode_number) (defScope s_Mode_number) .none kV_Mode_number dc_Mode_number pm_Mode_number an_Mode_number cd_Mode_number ct_Mode_number, p_Mode_number := p_Mode_number, f_Mode_pattern := f_Mode_pattern, d_Mode_pattern := PySem.W.fnOf "pattern" "Mode.pattern" (defArgs s_Mode_pattern) (defBody s_Mode_pattern) (defScope s_Mode_pattern) .none kV_Mode_pattern dc_Mode_pattern pm_Mode_pattern an_Mode_pattern cd_Mode_pattern ct_Mode_pattern, f_Mode_with_pattern := f_Mode_with_pattern, d_Mode_with_pattern := PySem.W.fnOf "with_pattern" "Mode.with_pattern" (defArgs s_Mode_with_pattern) (defBody s_Mode_with_pattern) (defScope s_Mode_with_pattern) .none kV_Mode_with_pattern dc_Mode_with_pattern pm_Mode_with_pattern an_Mode_with_pattern cd_Mode_with_pattern ct_Mode_with_pattern, f_ModeD_eqD := f_ModeD_eqD, d_ModeD_eqD := PySem.W.fnOf "__eq__" "Mode.__eq__" (defArgs s_ModeD_eqD) (defBody s_ModeD_eqD) (defScope s_ModeD_eqD) .none kV_ModeD_eqD dc_ModeD_eqD pm_ModeD_eqD an_ModeD_eqD cd_ModeD_eqD ct_ModeD_eqD, f_Mode_uniform := f_Mode_uniform, d_Mode_uniform := PySem.W.fnOf "uniform" "Mode.uniform" (defArgs s_Mode_uniform) (defBody s_Mode_uniform) (defScope s_Mode_uniform) .none kV_Mode_uniform dc_Mode_uniform pm_Mode_uniform an_Mode_uniform cd_Mode_uniform ct_Mode_uniform, p_Mode_uniform := p_Mode_uniform, k_WEIGHTS := k_WEIGHTS, x_BadMode := x_BadMode, x_BadInput := x_BadInput, x_NoWay := x_NoWay, x_BadText := x_BadText, x_ModesError := x_ModesError, f_BadModeD_initD := f_BadModeD_initD, d_BadModeD_initD := PySem.W.fnOf "__init__" "BadMode.__init__" (defArgs s_BadModeD_initD) (defBody s_BadModeD_initD) (defScope s_BadModeD_initD) .none kV_BadModeD_initD dc_BadModeD_initD pm_BadModeD_initD an_BadModeD_initD cd_BadModeD_initD ct_BadModeD_initD, f__law_heard := f__law_heard, d__law_heard := PySem.W.fnOf "_law_heard" "_law_heard" (defArgs s__law_heard) (defBody s__law_heard) (defScope s__law_heard) .none kV__law_heard dc__law_heard pm__law_heard an__law_heard cd__law_heard ct__law_heard } := {
    b_ValueError := PySem.W.mg_none_of X G z_ValueError,
    b_isinstance := PySem.W.mg_none_of X G z_isinstance,
    b_int := PySem.W.mg_none_of X G z_int,
    b_bool := PySem.W.mg_none_of X G z_bool,
    b_str := PySem.W.mg_none_of X G z_str,
    b_list := PySem.W.mg_none_of X G z_list,
    b_len := PySem.W.mg_none_of X G z_len,
    b_abs := PySem.W.mg_none_of X G z_abs,
    b_range := PySem.W.mg_none_of X G z_range,
    b_tuple := PySem.W.mg_none_of X G z_tuple,
    mg_weight_of := PySem.W.mg_of X G a_weight_of,
    fn_weight_of := fun_mk (st := s_weight_of) l_weight_of co_weight_of kp_weight_of,
    mg_is_whole := PySem.W.mg_of X G a_is_whole,
    fn_is_whole := fun_mk (st := s_is_whole) l_is_whole co_is_whole kp_is_whole,
    mg_is_whole_to := PySem.W.mg_of X G a_is_whole_to,
    fn_is_whole_to := fun_mk (st := s_is_whole_to) l_is_whole_to co_is_whole_to kp_is_whole_to,
    mg_pattern_in := PySem.W.mg_of X G a_pattern_in,
    fn_pattern_in := fun_mk (st := s_pattern_in) l_pattern_in co_pattern_in kp_pattern_in,
    mg_bits_of := PySem.W.mg_of X G a_bits_of,
    fn_bits_of := fun_mk (st := s_bits_of) l_bits_of co_bits_of kp_bits_of,
    mg_number_of := PySem.W.mg_of X G a_number_of,
    fn_number_of := fun_mk (st := s_number_of) l_number_of co_number_of kp_number_of,
    mg__law_bag := PySem.W.mg_of X G a__law_bag,
    fn__law_bag := fun_mk (st := s__law_bag) l__law_bag co__law_bag kp__law_bag,
    mg__law_draw := PySem.W.mg_of X G a__law_draw,
    fn__law_draw := fun_mk (st := s__law_draw) l__law_draw co__law_draw kp__law_draw,
    mg__law_same := PySem.W.mg_of X G a__law_same,
    fn__law_same := fun_mk (st := s__law_same) l__law_same co__law_same kp__law_same,
    mg__law_pattern := PySem.W.mg_of X G a__law_pattern,
    fn__law_pattern := fun_mk (st := s__law_pattern) l__law_pattern co__law_pattern kp__law_pattern,
    mg__law_with := PySem.W.mg_of X G a__law_with,
    fn__law_with := fun_mk (st := s__law_with) l__law_with co__law_with kp__law_with,
    mg__law_right := PySem.W.mg_of X G a__law_right,
    fn__law_right := fun_mk (st := s__law_right) l__law_right co__law_right kp__law_right,
    mg_law := PySem.W.mg_of X G a_law,
    fn_law := fun_mk (st := s_law) l_law co_law kp_law,
    mg_Mode := PySem.W.mg_of X G a_Mode,
    c_Mode := ⟨pg_Mode, hd_Mode, po_Mode, sa_Mode⟩,
    n_number_Mode := n_number_Mode,
    mk_Mode := ⟨mk_Mode, at_ModeD_initD, fi_ModeD_initD, kc_Mode⟩,
    fn_ModeD_initD := fun_mk (st := s_ModeD_initD) l_ModeD_initD co_ModeD_initD kp_ModeD_initD,
    p_Mode_number := ⟨at_Mode_number, ge_Mode_number, ta_Mode_number, ⟨_, rc_Mode_number⟩⟩,
    fn_Mode_number := fun_mk (st := s_Mode_number) l_Mode_number co_Mode_number kp_Mode_number,
    m_Mode_pattern := ⟨at_Mode_pattern, fi_Mode_pattern, kp_Mode_pattern⟩,
    fn_Mode_pattern := fun_mk (st := s_Mode_pattern) l_Mode_pattern co_Mode_pattern kp_Mode_pattern,
    m_Mode_with_pattern := ⟨at_Mode_with_pattern, fi_Mode_with_pattern, kp_Mode_with_pattern⟩,
    fn_Mode_with_pattern := fun_mk (st := s_Mode_with_pattern) l_Mode_with_pattern co_Mode_with_pattern kp_Mode_with_pattern,
    m_ModeD_eqD := ⟨at_ModeD_eqD, fi_ModeD_eqD, kp_ModeD_eqD⟩,
    fn_ModeD_eqD := fun_mk (st := s_ModeD_eqD) l_ModeD_eqD co_ModeD_eqD kp_ModeD_eqD,
    r_Mode := ⟨rd_Mode, ga_Mode⟩,
    k_Mode_MOST := ⟨_, ⟨cv_Mode_MOST, ⟨_, rfl⟩⟩⟩,
    m_Mode_uniform := ⟨at_Mode_uniform, ⟨_, rc_Mode_uniform⟩, kp_Mode_uniform⟩,
    fn_Mode_uniform := fun_mk (st := s_Mode_uniform) l_Mode_uniform co_Mode_uniform kp_Mode_uniform,
    ia_Mode := ia_Mode,
    im_Mode := im_Mode,
    is_Mode := kit_self,
    ii_Mode := kit_no ci_Mode ti_Mode su_Mode,
    in_ := in0,
    it_ := it0,
    nf_Mode := nf_Mode,
    mg_WEIGHTS := PySem.W.mg_of X G a_WEIGHTS,
    d_WEIGHTS := ⟨_, _, ⟨ld_WG, kl_WG, lw_WG⟩, ⟨_, er_WG⟩, ⟨_, ew_WG⟩, ⟨_, ex_WG⟩, (List.forall_mem_cons.mpr ⟨o0_WG, (List.forall_mem_cons.mpr ⟨o1_WG, (List.forall_mem_cons.mpr ⟨o2_WG, (List.forall_mem_cons.mpr ⟨o3_WG, (List.forall_mem_cons.mpr ⟨o4_WG, (List.forall_mem_cons.mpr ⟨o5_WG, (List.forall_mem_nil _)⟩)⟩)⟩)⟩)⟩)⟩)⟩,
    mg_BadMode := PySem.W.mg_of X G a_BadMode,
    mg_BadInput := PySem.W.mg_of X G a_BadInput,
    mg_NoWay := PySem.W.mg_of X G a_NoWay,
    mg_BadText := PySem.W.mg_of X G a_BadText,
    mg_ModesError := PySem.W.mg_of X G a_ModesError,
    ks_BadInput := kit_ref cix_BadInput tix_BadInput sux_BadInput nex_BadInput,
    ks_NoWay := kit_ref cix_NoWay tix_NoWay sux_NoWay nex_NoWay,
    ks_BadText := kit_ref cix_BadText tix_BadText sux_BadText nex_BadText,
    ks_BadMode := kit_self,
    ks_ValueError := kit_ve suv_B,
    ec_BadMode := ⟨ga_B, gg_B, ex_B, hd_B, cc_B, in0, it0, mr_B⟩,
    ox_BadMode := ⟨⟨_, _, _, _, _, _, _, _, _, _, _, _, _, _, _, xl_B, rf_B⟩, sa_B, ex_B, ty_B, kp_B⟩,
    ic_BadMode := in_B,
    it_BadMode := ti_B,
    np_BadMode := np_B,
    em_BadMode := exm_ref bex_ME cix_ModesError tix_ModesError sux_ME,
    fn_BadModeD_initD := fun_mk (st := s_BadModeD_initD) l_BadModeD_initD co_BadModeD_initD kp_BadModeD_initD,
    mg__law_heard := PySem.W.mg_of X G a__law_heard,
    fn__law_heard := fun_mk (st := s__law_heard) l__law_heard co__law_heard kp__law_heard
  }
  refine ⟨PySem.W.fnOf "law" "law" (defArgs s_law) (defBody s_law) (defScope s_law) .none kV_law dc_law pm_law an_law (.ref cA) ct_law, [(cA, P0)], spLaw K P0, fun p hp => ?_, fun p hp => ?_, fun p hp => ?_, fun s v => .of_eq rfl, fun H b ns hl _ hT hS => ⟨b, ns, rfl, hS, hl, hT (cA, P0) (List.mem_singleton.mpr rfl), fun _ => rfl⟩, fun base _ _ TB => ok_law T l_law co_law (TB (cA, P0) (List.mem_singleton.mpr rfl))⟩
  · rw [List.mem_singleton.mp hp]; exact tb_P0
  · rw [List.mem_singleton.mp hp]; exact kl_P0
  · rw [List.mem_singleton.mp hp]; exact PySem.W.codeHd_of_K X ch_P0
end KZ
open PySem PySem.W PyProof.Rows
set_option maxRecDepth 100000 in
set_option maxHeartbeats 0 in
theorem PySem.Challenge.cw_modesdown_k04_patterns_of_letters_holds : PySem.Challenge.rw_modesdown_k04_patterns_of_letters.Holds := by
  w_on; o_law; k_head; (case hw => w_witness2)
  k_fill
  refine LamX.walk_ofTs (n := 63) (k := 13) (x := "_law_script") (CX := fun _ => L2.CX0) rfl (by decide) rfl ⟨rfl, by decide, by decide⟩ (fun w h Y => PySem.W.km_in_of Y) ?F (fun _ _ _ _ _ z => z)
  case F =>
    intro w mg fa h Y kIn G hmg
    refine' KZ.all_mk kIn G hmg ?z_ValueError ?z_isinstance ?z_int ?z_bool ?z_str ?z_list ?z_len ?z_abs ?z_range ?z_tuple ?a_weight_of ?l_weight_of ?co_weight_of ?kp_weight_of ?a_is_whole ?l_is_whole ?co_is_whole ?kp_is_whole ?a_is_whole_to ?l_is_whole_to ?co_is_whole_to ?kp_is_whole_to ?a_pattern_in ?l_pattern_in ?co_pattern_in ?kp_pattern_in ?a_bits_of ?l_bits_of ?co_bits_of ?kp_bits_of ?a_number_of ?l_number_of ?co_number_of ?kp_number_of ?a__law_bag ?l__law_bag ?co__law_bag ?kp__law_bag ?a__law_draw ?l__law_draw ?co__law_draw ?kp__law_draw ?a__law_same ?l__law_same ?co__law_same ?kp__law_same ?a__law_pattern ?l__law_pattern ?co__law_pattern ?kp__law_pattern ?a__law_with ?l__law_with ?co__law_with ?kp__law_with ?a__law_right ?l__law_right ?co__law_right ?kp__law_right ?a_law ?l_law ?co_law ?kp_law ?a_Mode ?pg_Mode ?hd_Mode ?po_Mode ?sa_Mode ?n_number_Mode ?at_ModeD_initD ?fi_ModeD_initD ?l_ModeD_initD ?co_ModeD_initD ?kp_ModeD_initD ?mk_Mode ?kc_Mode ?at_Mode_number ?ge_Mode_number ?ta_Mode_number ?rc_Mode_number ?l_Mode_number ?co_Mode_number ?kp_Mode_number ?at_Mode_pattern ?fi_Mode_pattern ?l_Mode_pattern ?co_Mode_pattern ?kp_Mode_pattern ?at_Mode_with_pattern ?fi_Mode_with_pattern ?l_Mode_with_pattern ?co_Mode_with_pattern ?kp_Mode_with_pattern ?at_ModeD_eqD ?fi_ModeD_eqD ?l_ModeD_eqD ?co_ModeD_eqD ?kp_ModeD_eqD ?rd_Mode ?ga_Mode ?cv_Mode_MOST ?at_Mode_uniform ?rc_Mode_uniform ?l_Mode_uniform ?co_Mode_uniform ?kp_Mode_uniform ?ia_Mode ?im_Mode ?ci_Mode ?ti_Mode ?su_Mode ?in0 ?it0 ?nf_Mode ?a_WEIGHTS ?ld_WG ?kl_WG ?lw_WG ?er_WG ?ew_WG ?ex_WG ?o0_WG ?o1_WG ?o2_WG ?o3_WG ?o4_WG ?o5_WG ?a_BadMode ?a_BadInput ?a_NoWay ?a_BadText ?a_ModesError ?xl_B ?rf_B ?sa_B ?ex_B ?ty_B ?kp_B ?ga_B ?gg_B ?hd_B ?cc_B ?mr_B ?np_B ?in_B ?ti_B ?l_BadModeD_initD ?co_BadModeD_initD ?kp_BadModeD_initD ?cix_BadInput ?tix_BadInput ?cix_NoWay ?tix_NoWay ?cix_BadText ?tix_BadText ?cix_ModesError ?tix_ModesError ?sux_BadInput ?nex_BadInput ?sux_NoWay ?nex_NoWay ?sux_BadText ?nex_BadText ?suv_B ?bex_ME ?sux_ME ?a__law_heard ?l__law_heard ?co__law_heard ?kp__law_heard ?lc_P0 ?v11_P0 ?ch_P0 ?kl_P0 ?tb_P0
    (case z_ValueError => k_is)
    (case z_isinstance => k_is)
    (case z_int => k_is)
    (case z_bool => k_is)
    (case z_str => k_is)
    (case z_list => k_is)
    (case z_len => k_is)
    (case z_abs => k_is)
    (case z_range => k_is)
    (case z_tuple => k_is)
    (case a_weight_of => k_is)
    (case l_weight_of => k_is)
    (case co_weight_of => k_is)
    (case kp_weight_of => k_is)
    (case a_is_whole => k_is)
    (case l_is_whole => k_is)
    (case co_is_whole => k_is)
    (case kp_is_whole => k_is)
    (case a_is_whole_to => k_is)
    (case l_is_whole_to => k_is)
    (case co_is_whole_to => k_is)
    (case kp_is_whole_to => k_is)
    (case a_pattern_in => k_is)
    (case l_pattern_in => k_is)
    (case co_pattern_in => k_is)
    (case kp_pattern_in => k_is)
    (case a_bits_of => k_is)
    (case l_bits_of => k_is)
    (case co_bits_of => k_is)
    (case kp_bits_of => k_is)
    (case a_number_of => k_is)
    (case l_number_of => k_is)
    (case co_number_of => k_is)
    (case kp_number_of => k_is)
    (case a__law_bag => k_is)
    (case l__law_bag => k_is)
    (case co__law_bag => k_is)
    (case kp__law_bag => k_is)
    (case a__law_draw => k_is)
    (case l__law_draw => k_is)
    (case co__law_draw => k_is)
    (case kp__law_draw => k_is)
    (case a__law_same => k_is)
    (case l__law_same => k_is)
    (case co__law_same => k_is)
    (case kp__law_same => k_is)
    (case a__law_pattern => k_is)
    (case l__law_pattern => k_is)
    (case co__law_pattern => k_is)
    (case kp__law_pattern => k_is)
    (case a__law_with => k_is)
    (case l__law_with => k_is)
    (case co__law_with => k_is)
    (case kp__law_with => k_is)
    (case a__law_right => k_is)
    (case l__law_right => k_is)
    (case co__law_right => k_is)
    (case kp__law_right => k_is)
    (case a_law => k_is)
    (case l_law => k_is)
    (case co_law => k_is)
    (case kp_law => k_is)
    (case a_Mode => k_is)
    (case pg_Mode => k_is)
    (case hd_Mode => k_is)
    (case po_Mode => k_is)
    (case sa_Mode => k_is)
    (case n_number_Mode => k_is)
    (case at_ModeD_initD => k_is)
    (case fi_ModeD_initD => k_is)
    (case l_ModeD_initD => k_is)
    (case co_ModeD_initD => k_is)
    (case kp_ModeD_initD => k_is)
    (case mk_Mode => k_is)
    (case kc_Mode => k_is)
    (case at_Mode_number => k_is)
    (case ge_Mode_number => k_is)
    (case ta_Mode_number => k_is)
    (case rc_Mode_number => k_is)
    (case l_Mode_number => k_is)
    (case co_Mode_number => k_is)
    (case kp_Mode_number => k_is)
    (case at_Mode_pattern => k_is)
    (case fi_Mode_pattern => k_is)
    (case l_Mode_pattern => k_is)
    (case co_Mode_pattern => k_is)
    (case kp_Mode_pattern => k_is)
    (case at_Mode_with_pattern => k_is)
    (case fi_Mode_with_pattern => k_is)
    (case l_Mode_with_pattern => k_is)
    (case co_Mode_with_pattern => k_is)
    (case kp_Mode_with_pattern => k_is)
    (case at_ModeD_eqD => k_is)
    (case fi_ModeD_eqD => k_is)
    (case l_ModeD_eqD => k_is)
    (case co_ModeD_eqD => k_is)
    (case kp_ModeD_eqD => k_is)
    (case rd_Mode => k_is)
    (case ga_Mode => k_is)
    (case cv_Mode_MOST => k_is)
    (case at_Mode_uniform => k_is)
    (case rc_Mode_uniform => k_is)
    (case l_Mode_uniform => k_is)
    (case co_Mode_uniform => k_is)
    (case kp_Mode_uniform => k_is)
    (case ia_Mode => k_is)
    (case im_Mode => k_is)
    (case ci_Mode => k_is)
    (case ti_Mode => k_is)
    (case su_Mode => k_is)
    (case in0 => k_is)
    (case it0 => k_is)
    (case nf_Mode => k_is)
    (case a_WEIGHTS => k_is)
    (case ld_WG => k_is)
    (case kl_WG => k_keys)
    (case lw_WG => decide)
    (case er_WG => k_is)
    (case ew_WG => k_is)
    (case ex_WG => k_is)
    (case o0_WG => k_is)
    (case o1_WG => k_is)
    (case o2_WG => k_is)
    (case o3_WG => k_is)
    (case o4_WG => k_is)
    (case o5_WG => k_is)
    (case a_BadMode => k_is)
    (case a_BadInput => k_is)
    (case a_NoWay => k_is)
    (case a_BadText => k_is)
    (case a_ModesError => k_is)
    (case xl_B => k_is)
    (case rf_B => decide +kernel)
    (case sa_B => k_is)
    (case ex_B => k_is)
    (case ty_B => k_is)
    (case kp_B => k_is)
    (case ga_B => k_is)
    (case gg_B => k_is)
    (case hd_B => k_is)
    (case cc_B => k_is)
    (case mr_B => k_is)
    (case np_B => k_is)
    (case in_B => k_is)
    (case ti_B => k_is)
    (case l_BadModeD_initD => k_is)
    (case co_BadModeD_initD => k_is)
    (case kp_BadModeD_initD => k_is)
    (case cix_BadInput => k_is)
    (case tix_BadInput => k_is)
    (case cix_NoWay => k_is)
    (case tix_NoWay => k_is)
    (case cix_BadText => k_is)
    (case tix_BadText => k_is)
    (case cix_ModesError => k_is)
    (case tix_ModesError => k_is)
    (case sux_BadInput => k_is)
    (case nex_BadInput => decide)
    (case sux_NoWay => k_is)
    (case nex_NoWay => decide)
    (case sux_BadText => k_is)
    (case nex_BadText => decide)
    (case suv_B => k_is)
    (case bex_ME => k_is)
    (case sux_ME => k_is)
    (case a__law_heard => k_is)
    (case l__law_heard => k_is)
    (case co__law_heard => k_is)
    (case kp__law_heard => k_is)
    (case lc_P0 => k_is)
    (case v11_P0 => rfl)
    (case ch_P0 => kernel_rfl)
    (case kl_P0 => first | k_is | kernel_rfl)
    (case tb_P0 => exact PySem.W.km_tabs_of Y _ (by k_mem))
