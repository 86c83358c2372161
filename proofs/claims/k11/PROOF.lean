import PyProof.Rows.All
import Wide.All
import OpenK.AllK
import Wide.FinOn
import HandS.ForMost
import HandS.Property
import HandS.IsInst
import HandS.ClsMeth
import HandS.Conv
import HandS.Wide
import HandS.WideBits
import HandS.Star
import HandS.Flow
import HandS.Evl
import HandS.More
import HandS.Zip
import HandS.MethStar
import HandS.Strs
import KE.GoesEnum
import HandS.SlotsOwn
import PyProof.EnumMake
import HandS.IterVal
import HandS.TryOnly
import HandS.WordsExc
import HandS.TupMul
import KE.KDictKeyed
import HandS.Deep
import HandS.TupLen
import HandS.OwnEq
import PyProof.EqKinds
import HandS.TupLe

import PySem.Challenge.RW_modesdown_k11_whole_changes_joined_and_c

set_option Elab.async false
set_option linter.all false
set_option maxRecDepth 100000
set_option maxHeartbeats 4000000
namespace KY
open PySem L2
def top (i : Nat) : Stmt := PySem.Challenge.pw_modesdown_k11_whole_changes_joined_and_c.main.body.getD i (.Pass ⟨0, 0, 0, 0⟩)
abbrev s__wall : Stmt := top 0
abbrev s_is_whole : Stmt := top 2
abbrev s_is_whole_to : Stmt := top 3
abbrev s_is_choice : Stmt := top 4
abbrev s_BadModeD_initD : Stmt := inClass (top 9) 0
abbrev s_BadClauseD_initD : Stmt := inClass (top 10) 0
abbrev s_BadTextD_initD : Stmt := inClass (top 11) 0
abbrev s_TooManyD_initD : Stmt := inClass (top 12) 0
abbrev s_pattern_in : Stmt := top 17
abbrev s_bits_of : Stmt := top 18
abbrev s_weight_of : Stmt := top 19
abbrev s_ModeD_initD : Stmt := inClass (top 20) 1
abbrev s_Mode_read : Stmt := inClass (top 20) 2
abbrev s_Mode_of : Stmt := inClass (top 20) 3
abbrev s_Mode_uniform : Stmt := inClass (top 20) 4
abbrev s_Mode_number : Stmt := inClass (top 20) 5
abbrev s_Mode_digits : Stmt := inClass (top 20) 6
abbrev s_Mode_pattern : Stmt := inClass (top 20) 7
abbrev s_Mode_with_pattern : Stmt := inClass (top 20) 8
abbrev s_ModeD_orD : Stmt := inClass (top 20) 9
abbrev s_ModeD_rorD : Stmt := inClass (top 20) 10
abbrev s_ModeD_andD : Stmt := inClass (top 20) 11
abbrev s_ModeD_randD : Stmt := inClass (top 20) 12
abbrev s_ModeD_xorD : Stmt := inClass (top 20) 13
abbrev s_ModeD_rxorD : Stmt := inClass (top 20) 14
abbrev s_ModeD_invertD : Stmt := inClass (top 20) 15
abbrev s_ModeD_containsD : Stmt := inClass (top 20) 16
abbrev s_ModeD_lenD : Stmt := inClass (top 20) 17
abbrev s_ModeD_boolD : Stmt := inClass (top 20) 18
abbrev s_ModeD_eqD : Stmt := inClass (top 20) 19
abbrev s_ModeD_strD : Stmt := inClass (top 20) 20
abbrev s_ModeD_reprD : Stmt := inClass (top 20) 21
abbrev s_may_stand : Stmt := top 21
abbrev s_number_of : Stmt := top 22
abbrev s_is_meant : Stmt := top 29
abbrev s_pattern_behind : Stmt := top 30
abbrev s_part_of : Stmt := top 31
abbrev s_in_turn : Stmt := top 32
abbrev s_tables_of : Stmt := top 33
abbrev s_parts_for : Stmt := top 34
abbrev s_number_behind : Stmt := top 35
abbrev s_ClauseD_initD : Stmt := inClass (top 36) 0
abbrev s_Clause_read : Stmt := inClass (top 36) 1
abbrev s_Clause_who : Stmt := inClass (top 36) 2
abbrev s_Clause_sign : Stmt := inClass (top 36) 3
abbrev s_Clause_what : Stmt := inClass (top 36) 4
abbrev s_ClauseD_callD : Stmt := inClass (top 36) 5
abbrev s_ClauseD_eqD : Stmt := inClass (top 36) 6
abbrev s_ClauseD_strD : Stmt := inClass (top 36) 7
abbrev s_ChangeD_initD : Stmt := inClass (top 37) 1
abbrev s_Change_read : Stmt := inClass (top 37) 2
abbrev s_Change_setting : Stmt := inClass (top 37) 3
abbrev s_Change_clauses : Stmt := inClass (top 37) 4
abbrev s_Change_tables : Stmt := inClass (top 37) 5
abbrev s_ChangeD_callD : Stmt := inClass (top 37) 6
abbrev s_ChangeD_mulD : Stmt := inClass (top 37) 7
abbrev s_Change_like : Stmt := inClass (top 37) 8
abbrev s_Change_cycle : Stmt := inClass (top 37) 9
abbrev s_ChangeD_eqD : Stmt := inClass (top 37) 10
abbrev s_ChangeD_strD : Stmt := inClass (top 37) 11
abbrev s_parting : Stmt := top 38
abbrev s__law_pen : Stmt := top 40
abbrev s__law_draw : Stmt := top 41
abbrev s__law_pick : Stmt := top 42
abbrev s__law_clause : Stmt := top 43
abbrev s__law_text : Stmt := top 44
abbrev s__law_change : Stmt := top 45
abbrev s__law_change_text : Stmt := top 46
abbrev s__law_clause_done : Stmt := top 47
abbrev s__law_change_done : Stmt := top 48
abbrev s__law_again : Stmt := top 49
abbrev s__law_parting : Stmt := top 50
abbrev s__law_joined_right : Stmt := top 51
abbrev s_law : Stmt := top 52
abbrev n__wall : List Str := ["k"]
theorem sc__wall : FnScope n__wall ["k"] (defScope s__wall) := ⟨rfl, rfl, rfl, by decide +kernel, rfl, by decide +kernel, by decide +kernel⟩
abbrev n_is_whole : List Str := ["value"]
theorem sc_is_whole : FnScope n_is_whole ["value"] (defScope s_is_whole) := ⟨rfl, rfl, rfl, by decide +kernel, rfl, by decide +kernel, by decide +kernel⟩
abbrev n_is_whole_to : List Str := ["value", "most"]
theorem sc_is_whole_to : FnScope n_is_whole_to ["value", "most"] (defScope s_is_whole_to) := ⟨rfl, rfl, rfl, by decide +kernel, rfl, by decide +kernel, by decide +kernel⟩
abbrev n_is_choice : List Str := ["value", "letters", "letter"]
theorem sc_is_choice : FnScope n_is_choice ["value", "letters"] (defScope s_is_choice) := ⟨rfl, rfl, rfl, by decide +kernel, rfl, by decide +kernel, by decide +kernel⟩
abbrev n_BadModeD_initD : List Str := ["self", "part"]
theorem sc_BadModeD_initD : FnScope n_BadModeD_initD ["self", "part"] (defScope s_BadModeD_initD) := ⟨rfl, rfl, rfl, by decide +kernel, rfl, by decide +kernel, by decide +kernel⟩
abbrev n_BadClauseD_initD : List Str := ["self", "at"]
theorem sc_BadClauseD_initD : FnScope n_BadClauseD_initD ["self", "at"] (defScope s_BadClauseD_initD) := ⟨rfl, rfl, rfl, by decide +kernel, rfl, by decide +kernel, by decide +kernel⟩
abbrev n_BadTextD_initD : List Str := ["self", "line", "word"]
theorem sc_BadTextD_initD : FnScope n_BadTextD_initD ["self", "line", "word"] (defScope s_BadTextD_initD) := ⟨rfl, rfl, rfl, by decide +kernel, rfl, by decide +kernel, by decide +kernel⟩
abbrev n_TooManyD_initD : List Str := ["self", "most"]
theorem sc_TooManyD_initD : FnScope n_TooManyD_initD ["self", "most"] (defScope s_TooManyD_initD) := ⟨rfl, rfl, rfl, by decide +kernel, rfl, by decide +kernel, by decide +kernel⟩
abbrev n_pattern_in : List Str := ["number", "weight", "bits"]
theorem sc_pattern_in : FnScope n_pattern_in ["number", "weight"] (defScope s_pattern_in) := ⟨rfl, rfl, rfl, by decide +kernel, rfl, by decide +kernel, by decide +kernel⟩
abbrev n_bits_of : List Str := ["pattern", "weight"]
theorem sc_bits_of : FnScope n_bits_of ["pattern", "weight"] (defScope s_bits_of) := ⟨rfl, rfl, rfl, by decide +kernel, rfl, by decide +kernel, by decide +kernel⟩
abbrev n_weight_of : List Str := ["letter"]
theorem sc_weight_of : FnScope n_weight_of ["letter"] (defScope s_weight_of) := ⟨rfl, rfl, rfl, by decide +kernel, rfl, by decide +kernel, by decide +kernel⟩
abbrev n_ModeD_initD : List Str := ["self", "number"]
theorem sc_ModeD_initD : FnScope n_ModeD_initD ["self", "number"] (defScope s_ModeD_initD) := ⟨rfl, rfl, rfl, by decide +kernel, rfl, by decide +kernel, by decide +kernel⟩
abbrev n_Mode_read : List Str := ["cls", "text", "number", "at", "sign"]
theorem sc_Mode_read : FnScope n_Mode_read ["cls", "text"] (defScope s_Mode_read) := ⟨rfl, rfl, rfl, by decide +kernel, rfl, by decide +kernel, by decide +kernel⟩
abbrev n_Mode_of : List Str := ["owner", "group", "others", "part", "digit"]
theorem sc_Mode_of : FnScope n_Mode_of ["owner", "group", "others"] (defScope s_Mode_of) := ⟨rfl, rfl, rfl, by decide +kernel, rfl, by decide +kernel, by decide +kernel⟩
abbrev n_Mode_uniform : List Str := ["pattern"]
theorem sc_Mode_uniform : FnScope n_Mode_uniform ["pattern"] (defScope s_Mode_uniform) := ⟨rfl, rfl, rfl, by decide +kernel, rfl, by decide +kernel, by decide +kernel⟩
abbrev n_Mode_number : List Str := ["self"]
theorem sc_Mode_number : FnScope n_Mode_number ["self"] (defScope s_Mode_number) := ⟨rfl, rfl, rfl, by decide +kernel, rfl, by decide +kernel, by decide +kernel⟩
abbrev n_Mode_digits : List Str := ["self"]
theorem sc_Mode_digits : FnScope n_Mode_digits ["self"] (defScope s_Mode_digits) := ⟨rfl, rfl, rfl, by decide +kernel, rfl, by decide +kernel, by decide +kernel⟩
abbrev n_Mode_pattern : List Str := ["self", "letter"]
theorem sc_Mode_pattern : FnScope n_Mode_pattern ["self", "letter"] (defScope s_Mode_pattern) := ⟨rfl, rfl, rfl, by decide +kernel, rfl, by decide +kernel, by decide +kernel⟩
abbrev n_Mode_with_pattern : List Str := ["self", "letter", "pattern"]
theorem sc_Mode_with_pattern : FnScope n_Mode_with_pattern ["self", "letter", "pattern"] (defScope s_Mode_with_pattern) := ⟨rfl, rfl, rfl, by decide +kernel, rfl, by decide +kernel, by decide +kernel⟩
abbrev n_ModeD_orD : List Str := ["self", "other"]
theorem sc_ModeD_orD : FnScope n_ModeD_orD ["self", "other"] (defScope s_ModeD_orD) := ⟨rfl, rfl, rfl, by decide +kernel, rfl, by decide +kernel, by decide +kernel⟩
abbrev n_ModeD_rorD : List Str := ["self", "other"]
theorem sc_ModeD_rorD : FnScope n_ModeD_rorD ["self", "other"] (defScope s_ModeD_rorD) := ⟨rfl, rfl, rfl, by decide +kernel, rfl, by decide +kernel, by decide +kernel⟩
abbrev n_ModeD_andD : List Str := ["self", "other"]
theorem sc_ModeD_andD : FnScope n_ModeD_andD ["self", "other"] (defScope s_ModeD_andD) := ⟨rfl, rfl, rfl, by decide +kernel, rfl, by decide +kernel, by decide +kernel⟩
abbrev n_ModeD_randD : List Str := ["self", "other"]
theorem sc_ModeD_randD : FnScope n_ModeD_randD ["self", "other"] (defScope s_ModeD_randD) := ⟨rfl, rfl, rfl, by decide +kernel, rfl, by decide +kernel, by decide +kernel⟩
abbrev n_ModeD_xorD : List Str := ["self", "other"]
theorem sc_ModeD_xorD : FnScope n_ModeD_xorD ["self", "other"] (defScope s_ModeD_xorD) := ⟨rfl, rfl, rfl, by decide +kernel, rfl, by decide +kernel, by decide +kernel⟩
abbrev n_ModeD_rxorD : List Str := ["self", "other"]
theorem sc_ModeD_rxorD : FnScope n_ModeD_rxorD ["self", "other"] (defScope s_ModeD_rxorD) := ⟨rfl, rfl, rfl, by decide +kernel, rfl, by decide +kernel, by decide +kernel⟩
abbrev n_ModeD_invertD : List Str := ["self"]
theorem sc_ModeD_invertD : FnScope n_ModeD_invertD ["self"] (defScope s_ModeD_invertD) := ⟨rfl, rfl, rfl, by decide +kernel, rfl, by decide +kernel, by decide +kernel⟩
abbrev n_ModeD_containsD : List Str := ["self", "bit", "bits"]
theorem sc_ModeD_containsD : FnScope n_ModeD_containsD ["self", "bit"] (defScope s_ModeD_containsD) := ⟨rfl, rfl, rfl, by decide +kernel, rfl, by decide +kernel, by decide +kernel⟩
abbrev n_ModeD_lenD : List Str := ["self", "bit"]
theorem sc_ModeD_lenD : FnScope n_ModeD_lenD ["self"] (defScope s_ModeD_lenD) := ⟨rfl, rfl, rfl, by decide +kernel, rfl, by decide +kernel, by decide +kernel⟩
abbrev n_ModeD_boolD : List Str := ["self"]
theorem sc_ModeD_boolD : FnScope n_ModeD_boolD ["self"] (defScope s_ModeD_boolD) := ⟨rfl, rfl, rfl, by decide +kernel, rfl, by decide +kernel, by decide +kernel⟩
abbrev n_ModeD_eqD : List Str := ["self", "other"]
theorem sc_ModeD_eqD : FnScope n_ModeD_eqD ["self", "other"] (defScope s_ModeD_eqD) := ⟨rfl, rfl, rfl, by decide +kernel, rfl, by decide +kernel, by decide +kernel⟩
abbrev n_ModeD_strD : List Str := ["self", "sign", "bit"]
theorem sc_ModeD_strD : FnScope n_ModeD_strD ["self"] (defScope s_ModeD_strD) := ⟨rfl, rfl, rfl, by decide +kernel, rfl, by decide +kernel, by decide +kernel⟩
abbrev n_ModeD_reprD : List Str := ["self"]
theorem sc_ModeD_reprD : FnScope n_ModeD_reprD ["self"] (defScope s_ModeD_reprD) := ⟨rfl, rfl, rfl, by decide +kernel, rfl, by decide +kernel, by decide +kernel⟩
abbrev n_may_stand : List Str := ["value"]
theorem sc_may_stand : FnScope n_may_stand ["value"] (defScope s_may_stand) := ⟨rfl, rfl, rfl, by decide +kernel, rfl, by decide +kernel, by decide +kernel⟩
abbrev n_number_of : List Str := ["mode"]
theorem sc_number_of : FnScope n_number_of ["mode"] (defScope s_number_of) := ⟨rfl, rfl, rfl, by decide +kernel, rfl, by decide +kernel, by decide +kernel⟩
abbrev n_is_meant : List Str := ["what", "letter", "pattern", "form"]
theorem sc_is_meant : FnScope n_is_meant ["what", "letter", "pattern", "form"] (defScope s_is_meant) := ⟨rfl, rfl, rfl, by decide +kernel, rfl, by decide +kernel, by decide +kernel⟩
abbrev n_pattern_behind : List Str := ["mask", "sign", "meant", "pattern"]
theorem sc_pattern_behind : FnScope n_pattern_behind ["mask", "sign", "meant", "pattern"] (defScope s_pattern_behind) := ⟨rfl, rfl, rfl, by decide +kernel, rfl, by decide +kernel, by decide +kernel⟩
abbrev n_part_of : List Str := ["who", "sign", "what", "letter", "form", "mask", "told", "pattern"]
theorem sc_part_of : FnScope n_part_of ["who", "sign", "what", "letter", "form"] (defScope s_part_of) := ⟨rfl, rfl, rfl, by decide +kernel, rfl, by decide +kernel, by decide +kernel⟩
abbrev n_in_turn : List Str := ["one", "other", "first", "later", "pattern"]
theorem sc_in_turn : FnScope n_in_turn ["one", "other"] (defScope s_in_turn) := ⟨rfl, rfl, rfl, by decide +kernel, rfl, by decide +kernel, by decide +kernel⟩
abbrev n_tables_of : List Str := ["clauses", "tables", "clause"]
theorem sc_tables_of : FnScope n_tables_of ["clauses"] (defScope s_tables_of) := ⟨rfl, rfl, rfl, by decide +kernel, rfl, by decide +kernel, by decide +kernel⟩
abbrev n_parts_for : List Str := ["tables", "form"]
theorem sc_parts_for : FnScope n_parts_for ["tables", "form"] (defScope s_parts_for) := ⟨rfl, rfl, rfl, by decide +kernel, rfl, by decide +kernel, by decide +kernel⟩
abbrev n_number_behind : List Str := ["tables", "number", "form", "reads", "writes", "enters"]
theorem sc_number_behind : FnScope n_number_behind ["tables", "number", "form"] (defScope s_number_behind) := ⟨rfl, rfl, rfl, by decide +kernel, rfl, by decide +kernel, by decide +kernel⟩
abbrev n_ClauseD_initD : List Str := ["self", "who", "sign", "what", "letter", "form"]
theorem sc_ClauseD_initD : FnScope n_ClauseD_initD ["self", "who", "sign", "what"] (defScope s_ClauseD_initD) := ⟨rfl, rfl, rfl, by decide +kernel, rfl, by decide +kernel, by decide +kernel⟩
abbrev n_Clause_read : List Str := ["cls", "text", "at", "sign"]
theorem sc_Clause_read : FnScope n_Clause_read ["cls", "text"] (defScope s_Clause_read) := ⟨rfl, rfl, rfl, by decide +kernel, rfl, by decide +kernel, by decide +kernel⟩
abbrev n_Clause_who : List Str := ["self"]
theorem sc_Clause_who : FnScope n_Clause_who ["self"] (defScope s_Clause_who) := ⟨rfl, rfl, rfl, by decide +kernel, rfl, by decide +kernel, by decide +kernel⟩
abbrev n_Clause_sign : List Str := ["self"]
theorem sc_Clause_sign : FnScope n_Clause_sign ["self"] (defScope s_Clause_sign) := ⟨rfl, rfl, rfl, by decide +kernel, rfl, by decide +kernel, by decide +kernel⟩
abbrev n_Clause_what : List Str := ["self"]
theorem sc_Clause_what : FnScope n_Clause_what ["self"] (defScope s_Clause_what) := ⟨rfl, rfl, rfl, by decide +kernel, rfl, by decide +kernel, by decide +kernel⟩
abbrev n_ClauseD_callD : List Str := ["self", "mode", "form"]
theorem sc_ClauseD_callD : FnScope n_ClauseD_callD ["self", "mode", "form"] (defScope s_ClauseD_callD) := ⟨rfl, rfl, rfl, by decide +kernel, rfl, by decide +kernel, by decide +kernel⟩
abbrev n_ClauseD_eqD : List Str := ["self", "other"]
theorem sc_ClauseD_eqD : FnScope n_ClauseD_eqD ["self", "other"] (defScope s_ClauseD_eqD) := ⟨rfl, rfl, rfl, by decide +kernel, rfl, by decide +kernel, by decide +kernel⟩
abbrev n_ClauseD_strD : List Str := ["self", "who"]
theorem sc_ClauseD_strD : FnScope n_ClauseD_strD ["self"] (defScope s_ClauseD_strD) := ⟨rfl, rfl, rfl, by decide +kernel, rfl, by decide +kernel, by decide +kernel⟩
abbrev n_ChangeD_initD : List Str := ["self", "clauses", "at", "clause"]
theorem sc_ChangeD_initD : FnScope n_ChangeD_initD ["self"] (defScope s_ChangeD_initD) := ⟨rfl, rfl, rfl, by decide +kernel, rfl, by decide +kernel, by decide +kernel⟩
abbrev n_Change_read : List Str := ["cls", "text", "parts", "clauses", "at", "part"]
theorem sc_Change_read : FnScope n_Change_read ["cls", "text"] (defScope s_Change_read) := ⟨rfl, rfl, rfl, by decide +kernel, rfl, by decide +kernel, by decide +kernel⟩
abbrev n_Change_setting : List Str := ["mode"]
theorem sc_Change_setting : FnScope n_Change_setting ["mode"] (defScope s_Change_setting) := ⟨rfl, rfl, rfl, by decide +kernel, rfl, by decide +kernel, by decide +kernel⟩
abbrev n_Change_clauses : List Str := ["self"]
theorem sc_Change_clauses : FnScope n_Change_clauses ["self"] (defScope s_Change_clauses) := ⟨rfl, rfl, rfl, by decide +kernel, rfl, by decide +kernel, by decide +kernel⟩
abbrev n_Change_tables : List Str := ["self"]
theorem sc_Change_tables : FnScope n_Change_tables ["self"] (defScope s_Change_tables) := ⟨rfl, rfl, rfl, by decide +kernel, rfl, by decide +kernel, by decide +kernel⟩
abbrev n_ChangeD_callD : List Str := ["self", "mode", "form"]
theorem sc_ChangeD_callD : FnScope n_ChangeD_callD ["self", "mode", "form"] (defScope s_ChangeD_callD) := ⟨rfl, rfl, rfl, by decide +kernel, rfl, by decide +kernel, by decide +kernel⟩
abbrev n_ChangeD_mulD : List Str := ["self", "other", "clauses"]
theorem sc_ChangeD_mulD : FnScope n_ChangeD_mulD ["self", "other"] (defScope s_ChangeD_mulD) := ⟨rfl, rfl, rfl, by decide +kernel, rfl, by decide +kernel, by decide +kernel⟩
abbrev n_Change_like : List Str := ["self", "other"]
theorem sc_Change_like : FnScope n_Change_like ["self", "other"] (defScope s_Change_like) := ⟨rfl, rfl, rfl, by decide +kernel, rfl, by decide +kernel, by decide +kernel⟩
abbrev n_Change_cycle : List Str := ["self", "form"]
theorem sc_Change_cycle : FnScope n_Change_cycle ["self", "form"] (defScope s_Change_cycle) := ⟨rfl, rfl, rfl, by decide +kernel, rfl, by decide +kernel, by decide +kernel⟩
abbrev n_ChangeD_eqD : List Str := ["self", "other"]
theorem sc_ChangeD_eqD : FnScope n_ChangeD_eqD ["self", "other"] (defScope s_ChangeD_eqD) := ⟨rfl, rfl, rfl, by decide +kernel, rfl, by decide +kernel, by decide +kernel⟩
abbrev n_ChangeD_strD : List Str := ["self", "clause"]
theorem sc_ChangeD_strD : FnScope n_ChangeD_strD ["self"] (defScope s_ChangeD_strD) := ⟨rfl, rfl, rfl, by decide +kernel, rfl, by decide +kernel, by decide +kernel⟩
abbrev n_parting : List Str := ["one", "other", "form", "pattern", "mode"]
theorem sc_parting : FnScope n_parting ["one", "other"] (defScope s_parting) := ⟨rfl, rfl, rfl, by decide +kernel, rfl, by decide +kernel, by decide +kernel⟩
abbrev n__law_pen : List Str := ["_law_script"]
theorem sc__law_pen : FnScope n__law_pen ["_law_script"] (defScope s__law_pen) := ⟨rfl, rfl, rfl, by decide +kernel, rfl, by decide +kernel, by decide +kernel⟩
abbrev n__law_draw : List Str := ["_law_pen_here", "_law_many", "_law_digit", "_law_at", "_law_cell", "_law_great", "_law_mixed"]
theorem sc__law_draw : FnScope n__law_draw ["_law_pen_here", "_law_many"] (defScope s__law_draw) := ⟨rfl, rfl, rfl, by decide +kernel, rfl, by decide +kernel, by decide +kernel⟩
abbrev n__law_pick : List Str := ["_law_pen_here", "_law_some"]
theorem sc__law_pick : FnScope n__law_pick ["_law_pen_here", "_law_some"] (defScope s__law_pick) := ⟨rfl, rfl, rfl, by decide +kernel, rfl, by decide +kernel, by decide +kernel⟩
abbrev n__law_clause : List Str := ["_law_pen_here", "_law_who", "_law_what"]
theorem sc__law_clause : FnScope n__law_clause ["_law_pen_here"] (defScope s__law_clause) := ⟨rfl, rfl, rfl, by decide +kernel, rfl, by decide +kernel, by decide +kernel⟩
abbrev n__law_text : List Str := ["_law_told"]
theorem sc__law_text : FnScope n__law_text ["_law_told"] (defScope s__law_text) := ⟨rfl, rfl, rfl, by decide +kernel, rfl, by decide +kernel, by decide +kernel⟩
abbrev n__law_change : List Str := ["_law_pen_here", "_law_most", "_law_k"]
theorem sc__law_change : FnScope n__law_change ["_law_pen_here", "_law_most"] (defScope s__law_change) := ⟨rfl, rfl, rfl, by decide +kernel, rfl, by decide +kernel, by decide +kernel⟩
abbrev n__law_change_text : List Str := ["_law_change_here", "_law_told"]
theorem sc__law_change_text : FnScope n__law_change_text ["_law_change_here"] (defScope s__law_change_text) := ⟨rfl, rfl, rfl, by decide +kernel, rfl, by decide +kernel, by decide +kernel⟩
abbrev n__law_clause_done : List Str := ["_law_told", "_law_number", "_law_form", "_law_who", "_law_sign", "_law_what", "_law_digits", "_law_meant", "_law_later", "_law_letter", "_law_gained"]
theorem sc__law_clause_done : FnScope n__law_clause_done ["_law_told", "_law_number", "_law_form"] (defScope s__law_clause_done) := ⟨rfl, rfl, rfl, by decide +kernel, rfl, by decide +kernel, by decide +kernel⟩
abbrev n__law_change_done : List Str := ["_law_change_here", "_law_number", "_law_form", "_law_told"]
theorem sc__law_change_done : FnScope n__law_change_done ["_law_change_here", "_law_number", "_law_form"] (defScope s__law_change_done) := ⟨rfl, rfl, rfl, by decide +kernel, rfl, by decide +kernel, by decide +kernel⟩
abbrev n__law_again : List Str := ["_law_pen_here", "_law_told", "_law_way", "_law_at", "_law_who", "_law_sign", "_law_what", "_law_rest", "_law_one_so"]
theorem sc__law_again : FnScope n__law_again ["_law_pen_here", "_law_told"] (defScope s__law_again) := ⟨rfl, rfl, rfl, by decide +kernel, rfl, by decide +kernel, by decide +kernel⟩
abbrev n__law_parting : List Str := ["_law_one_so", "_law_other_so", "_law_form", "_law_ones", "_law_others", "_law_flat", "_law_far_so", "_law_number", "_law_p"]
theorem sc__law_parting : FnScope n__law_parting ["_law_one_so", "_law_other_so"] (defScope s__law_parting) := ⟨rfl, rfl, rfl, by decide +kernel, rfl, by decide +kernel, by decide +kernel⟩
abbrev n__law_joined_right : List Str := ["_law_pen_here", "_law_told", "_law_first", "_law_last", "_law_middle", "_law_both", "_law_whole", "_law_again_here", "_law_number", "_law_form", "_law_later"]
theorem sc__law_joined_right : FnScope n__law_joined_right ["_law_pen_here", "_law_told"] (defScope s__law_joined_right) := ⟨rfl, rfl, rfl, by decide +kernel, rfl, by decide +kernel, by decide +kernel⟩
abbrev n_law : List Str := ["_law_script", "_law_pen_here", "_law_turn", "_law_told", "_law_more", "_law_left", "_law_right", "_law_due", "_law_found", "_law_heard", "_law_shut", "_law_open_again", "_law_form", "_law_mode"]
theorem sc_law : FnScope n_law ["_law_script"] (defScope s_law) := ⟨rfl, rfl, rfl, by decide +kernel, rfl, by decide +kernel, by decide +kernel⟩
end KY
set_option Elab.async false
set_option linter.all false
set_option maxRecDepth 100000
set_option maxHeartbeats 4000000
namespace KY
open PySem PySem.Spec PyProof.Rows L2 Evl
/-! tactics by name -/
local macro_rules | `(tactic| walk_at "ev") => `(tactic| repeat' (first | exact ev_c | exact ev_var rfl | exact rv_I0 | refine' rv_I ?_ | refine' rv_eq ?_ | refine' rv_ne ?_ | refine' ev_op ?_ ?_ ?_ | exact ea_nil | refine' ea_cons ?_ ?_ | refine' et_test ?_ | refine' et_B ?_ | refine' et_not ?_ | refine' ev_notV ?_))
/-! pure promises -/
def patN (n w : Nat) : Nat := 4 * (n / w / 64 % 2) + 2 * (n / w / 8 % 2) + n / w % 2
def bitsN (p w : Nat) : Nat := (64 * (p / 4 % 2) + 8 * (p / 2 % 2) + p % 2) * w
def spPat : Sp := fun vs H Q _ => ∃ n w : Nat, vs = [.int n, .int w] ∧ n < 512 ∧ (w = 1 ∨ w = 2 ∨ w = 4) ∧ ∀ H', Ex H H' → Q (.int (patN n w : Nat)) H'
def spBits : Sp := fun vs H Q _ => ∃ p w : Nat, vs = [.int p, .int w] ∧ p < 8 ∧ (w = 1 ∨ w = 2 ∨ w = 4) ∧ ∀ H', Ex H H' → Q (.int (bitsN p w : Nat)) H'
theorem all_nat {n : Nat} {p : Nat → Bool} (h : (List.range n).all p = true) : ∀ i, i < n → p i = true := fun i hi => List.all_eq_true.mp h i (List.mem_range.mpr hi)
theorem pat_is : ∀ w : Nat, (w = 1 ∨ w = 2 ∨ w = 4) → ∀ n : Nat, n < 512 → Builtin.bitOr (Builtin.bitOr (Builtin.bitAnd ((n : Int) / (w : Int) / 2 ^ (4 : Int).toNat) 4) (Builtin.bitAnd ((n : Int) / (w : Int) / 2 ^ (2 : Int).toNat) 2)) (Builtin.bitAnd ((n : Int) / (w : Int)) 1) = (patN n w : Nat) := by
  have h : (([1, 2, 4] : List Nat).all fun (w : Nat) => (List.range 512).all fun (n : Nat) => decide (Builtin.bitOr (Builtin.bitOr (Builtin.bitAnd ((n : Int) / (w : Int) / 2 ^ (4 : Int).toNat) 4) (Builtin.bitAnd ((n : Int) / (w : Int) / 2 ^ (2 : Int).toNat) 2)) (Builtin.bitAnd ((n : Int) / (w : Int)) 1) = (patN n w : Nat))) = true := by decide +kernel
  intro w hw n hn
  have h1 := List.all_eq_true.mp h w (by rcases hw with e | e | e <;> subst e <;> decide)
  exact of_decide_eq_true (all_nat h1 n hn)
theorem bits_is : ∀ w : Nat, (w = 1 ∨ w = 2 ∨ w = 4) → ∀ p : Nat, p < 8 → Builtin.bitOr (Builtin.bitOr (Builtin.bitAnd (p : Int) 4 * 2 ^ (4 : Int).toNat) (Builtin.bitAnd (p : Int) 2 * 2 ^ (2 : Int).toNat)) (Builtin.bitAnd (p : Int) 1) * (w : Int) = (bitsN p w : Nat) := by
  have h : (([1, 2, 4] : List Nat).all fun (w : Nat) => (List.range 8).all fun (p : Nat) => decide (Builtin.bitOr (Builtin.bitOr (Builtin.bitAnd (p : Int) 4 * 2 ^ (4 : Int).toNat) (Builtin.bitAnd (p : Int) 2 * 2 ^ (2 : Int).toNat)) (Builtin.bitAnd (p : Int) 1) * (w : Int) = (bitsN p w : Nat))) = true := by decide +kernel
  intro w hw n hn
  have h1 := List.all_eq_true.mp h w (by rcases hw with e | e | e <;> subst e <;> decide)
  exact of_decide_eq_true (all_nat h1 n hn)
theorem and_lt : ∀ p : Nat, p < 8 → (Builtin.bitAnd (p : Int) 4).natAbs < 2 ^ 64 ∧ (Builtin.bitAnd (p : Int) 2).natAbs < 2 ^ 64 := by
  have h : ((List.range 8).all fun (p : Nat) => decide ((Builtin.bitAnd (p : Int) 4).natAbs < 2 ^ 64 ∧ (Builtin.bitAnd (p : Int) 2).natAbs < 2 ^ 64)) = true := by decide +kernel
  exact fun p hp => of_decide_eq_true (all_nat h p hp)
section
variable {P : Program} {w : World} {K : PySem.W.Frag} {mg : Str → Option Value} {base : Heap}
theorem ok_pattern_in {f : Addr} {fd : FuncData} (F : Fun K "pattern_in" "pattern_in" s_pattern_in f fd) : FnOk P w K mg base CX0 1 f fd ["number", "weight"] spPat := by
  refine F.ok sc_pattern_in (fun vs H Q E h => ?_) (fun cdv A outer s H vs Q E hr h => ?_)
  · obtain ⟨_, _, rfl, _⟩ := h
    rfl
  · obtain ⟨n, w, rfl, hn, hw, k⟩ := h
    refine ⟨_, (pss_cons (ps_set (i := 2) sc_pattern_in.nd rfl (Or.inl rfl) (pe_op op_fdiv (pv 0) (pv 1)))
    (pss_one (ps_ret (pe_op op_or (pe_op op_or (pe_op op_and (pe_op op_shr (pv 2) pe_int) pe_int) (pe_op op_and (pe_op op_shr (pv 2) pe_int) pe_int)) (pe_op op_and (pv 2) pe_int))))), ?_⟩
    refine q_asg (by walk_at "ev"; exact ⟨by omega, by omega⟩) fun H1 e1 => ?_
    refine s_ret (v := .int (patN n w : Nat)) (ev_is (by walk_at "ev"; all_goals decide) (congrArg V.int (pat_is w hw n hn))) fun H2 e2 => ?_
    exact k H2 (e1.trans e2)
theorem ok_bits_of {f : Addr} {fd : FuncData} (F : Fun K "bits_of" "bits_of" s_bits_of f fd) : FnOk P w K mg base CX0 1 f fd ["pattern", "weight"] spBits := by
  refine F.ok sc_bits_of (fun vs H Q E h => ?_) (fun cdv A outer s H vs Q E hr h => ?_)
  · obtain ⟨_, _, rfl, _⟩ := h
    rfl
  · obtain ⟨n, w, rfl, hn, hw, k⟩ := h
    refine ⟨_, (pss_one (ps_ret (pe_op op_mul (pe_op op_or (pe_op op_or (pe_op op_shl (pe_op op_and (pv 0) pe_int) pe_int) (pe_op op_shl (pe_op op_and (pv 0) pe_int) pe_int)) (pe_op op_and (pv 0) pe_int)) (pv 1)))), ?_⟩
    refine s_ret (v := .int (bitsN n w : Nat)) (ev_is (by walk_at "ev"; exact ⟨by decide, by decide, (and_lt n hn).1⟩; exact ⟨by decide, by decide, (and_lt n hn).2⟩; exact Or.inr ⟨by omega, by omega⟩) (congrArg V.int (bits_is w hw n hn))) fun H2 e2 => ?_
    exact k H2 e2
end
end KY
set_option Elab.async false
set_option linter.all false
set_option maxRecDepth 100000
set_option maxHeartbeats 4000000
namespace KY
open PySem PySem.Spec PyProof.Rows L2 Evl
/-- C.m is a staticmethod: its record at p, its def at g -/
structure SMet (K : PySem.W.Frag) (C : Addr) (m : Str) (p g : Addr) : Prop where
  at_ : PySem.W.findCls K (.ref C) (.type "type") m = some (.get (.builtin "staticmethod.__get__") (.ref p) .none (.ref C))
  rc : ∃ rest, PySem.W.recIn K p "staticmethod" = some (.ref g :: rest)
  kp : PySem.W.keepIn K (.ref g) = true
def whats : List Str := ["r", "w", "x", "X", "rX", "rwx", "rwX", "wx", "rx", "", "xX", "rwxX"]
structure Ads where
  f_is_whole : Addr
  d_is_whole : FuncData
  f_is_whole_to : Addr
  d_is_whole_to : FuncData
  f_is_choice : Addr
  d_is_choice : FuncData
  f_pattern_in : Addr
  d_pattern_in : FuncData
  f_bits_of : Addr
  d_bits_of : FuncData
  f_number_of : Addr
  d_number_of : FuncData
  f_is_meant : Addr
  d_is_meant : FuncData
  f_pattern_behind : Addr
  d_pattern_behind : FuncData
  f_part_of : Addr
  d_part_of : FuncData
  f_parts_for : Addr
  d_parts_for : FuncData
  f_number_behind : Addr
  d_number_behind : FuncData
  f__law_pen : Addr
  d__law_pen : FuncData
  f__law_draw : Addr
  d__law_draw : FuncData
  f__law_pick : Addr
  d__law_pick : FuncData
  f__law_clause : Addr
  d__law_clause : FuncData
  f__law_clause_done : Addr
  d__law_clause_done : FuncData
  f_law : Addr
  d_law : FuncData
  f_in_turn : Addr
  d_in_turn : FuncData
  f_tables_of : Addr
  d_tables_of : FuncData
  f_parting : Addr
  d_parting : FuncData
  f__law_text : Addr
  d__law_text : FuncData
  f__law_change : Addr
  d__law_change : FuncData
  f__law_change_text : Addr
  d__law_change_text : FuncData
  f__law_change_done : Addr
  d__law_change_done : FuncData
  f__law_again : Addr
  d__law_again : FuncData
  f__law_parting : Addr
  d__law_parting : FuncData
  f__law_joined_right : Addr
  d__law_joined_right : FuncData
  f_Mode : Addr
  f_ModeD_initD : Addr
  d_ModeD_initD : FuncData
  f_Mode_number : Addr
  d_Mode_number : FuncData
  p_Mode_number : Addr
  f_ModeD_strD : Addr
  d_ModeD_strD : FuncData
  f_ModeD_eqD : Addr
  d_ModeD_eqD : FuncData
  f_Mode_uniform : Addr
  d_Mode_uniform : FuncData
  p_Mode_uniform : Addr
  f_Clause : Addr
  f_ClauseD_initD : Addr
  d_ClauseD_initD : FuncData
  f_Clause_who : Addr
  d_Clause_who : FuncData
  p_Clause_who : Addr
  f_Clause_sign : Addr
  d_Clause_sign : FuncData
  p_Clause_sign : Addr
  f_Clause_what : Addr
  d_Clause_what : FuncData
  p_Clause_what : Addr
  f_ClauseD_eqD : Addr
  d_ClauseD_eqD : FuncData
  f_ClauseD_callD : Addr
  d_ClauseD_callD : FuncData
  f_Clause_read : Addr
  d_Clause_read : FuncData
  p_Clause_read : Addr
  f_Change : Addr
  f_ChangeD_initD : Addr
  d_ChangeD_initD : FuncData
  f_Change_clauses : Addr
  d_Change_clauses : FuncData
  p_Change_clauses : Addr
  f_Change_tables : Addr
  d_Change_tables : FuncData
  p_Change_tables : Addr
  f_Change_like : Addr
  d_Change_like : FuncData
  f_ChangeD_mulD : Addr
  d_ChangeD_mulD : FuncData
  f_ChangeD_eqD : Addr
  d_ChangeD_eqD : FuncData
  f_ChangeD_callD : Addr
  d_ChangeD_callD : FuncData
  f_Change_read : Addr
  d_Change_read : FuncData
  p_Change_read : Addr
  k_SIGNS : Addr
  k_FORMS : Addr
  k_CLASSES : Addr
  k_PATTERNS : Addr
  k_PARTS : Addr
  k_NINE_BITS : Addr
  x_BadClause : Addr
structure Txt (w : World) (K : PySem.W.Frag) (mg : Str → Option Value) (a : Ads) : Prop where
  b_isinstance : mg "isinstance" = none
  b_int : mg "int" = none
  b_bool : mg "bool" = none
  b_str : mg "str" = none
  b_sum : mg "sum" = none
  b_tuple : mg "tuple" = none
  b_zip : mg "zip" = none
  b_list : mg "list" = none
  b_len : mg "len" = none
  b_abs : mg "abs" = none
  b_range : mg "range" = none
  b_dict : mg "dict" = none
  b_enumerate : mg "enumerate" = none
  b_repr : mg "repr" = none
  mg_is_whole : mg "is_whole" = some (.ref a.f_is_whole)
  fn_is_whole : Fun K "is_whole" "is_whole" s_is_whole a.f_is_whole a.d_is_whole
  mg_is_whole_to : mg "is_whole_to" = some (.ref a.f_is_whole_to)
  fn_is_whole_to : Fun K "is_whole_to" "is_whole_to" s_is_whole_to a.f_is_whole_to a.d_is_whole_to
  mg_is_choice : mg "is_choice" = some (.ref a.f_is_choice)
  fn_is_choice : Fun K "is_choice" "is_choice" s_is_choice a.f_is_choice a.d_is_choice
  mg_pattern_in : mg "pattern_in" = some (.ref a.f_pattern_in)
  fn_pattern_in : Fun K "pattern_in" "pattern_in" s_pattern_in a.f_pattern_in a.d_pattern_in
  mg_bits_of : mg "bits_of" = some (.ref a.f_bits_of)
  fn_bits_of : Fun K "bits_of" "bits_of" s_bits_of a.f_bits_of a.d_bits_of
  mg_number_of : mg "number_of" = some (.ref a.f_number_of)
  fn_number_of : Fun K "number_of" "number_of" s_number_of a.f_number_of a.d_number_of
  mg_is_meant : mg "is_meant" = some (.ref a.f_is_meant)
  fn_is_meant : Fun K "is_meant" "is_meant" s_is_meant a.f_is_meant a.d_is_meant
  mg_pattern_behind : mg "pattern_behind" = some (.ref a.f_pattern_behind)
  fn_pattern_behind : Fun K "pattern_behind" "pattern_behind" s_pattern_behind a.f_pattern_behind a.d_pattern_behind
  mg_part_of : mg "part_of" = some (.ref a.f_part_of)
  fn_part_of : Fun K "part_of" "part_of" s_part_of a.f_part_of a.d_part_of
  mg_parts_for : mg "parts_for" = some (.ref a.f_parts_for)
  fn_parts_for : Fun K "parts_for" "parts_for" s_parts_for a.f_parts_for a.d_parts_for
  mg_number_behind : mg "number_behind" = some (.ref a.f_number_behind)
  fn_number_behind : Fun K "number_behind" "number_behind" s_number_behind a.f_number_behind a.d_number_behind
  mg__law_pen : mg "_law_pen" = some (.ref a.f__law_pen)
  fn__law_pen : Fun K "_law_pen" "_law_pen" s__law_pen a.f__law_pen a.d__law_pen
  mg__law_draw : mg "_law_draw" = some (.ref a.f__law_draw)
  fn__law_draw : Fun K "_law_draw" "_law_draw" s__law_draw a.f__law_draw a.d__law_draw
  mg__law_pick : mg "_law_pick" = some (.ref a.f__law_pick)
  fn__law_pick : Fun K "_law_pick" "_law_pick" s__law_pick a.f__law_pick a.d__law_pick
  mg__law_clause : mg "_law_clause" = some (.ref a.f__law_clause)
  fn__law_clause : Fun K "_law_clause" "_law_clause" s__law_clause a.f__law_clause a.d__law_clause
  mg__law_clause_done : mg "_law_clause_done" = some (.ref a.f__law_clause_done)
  fn__law_clause_done : Fun K "_law_clause_done" "_law_clause_done" s__law_clause_done a.f__law_clause_done a.d__law_clause_done
  mg_law : mg "law" = some (.ref a.f_law)
  fn_law : Fun K "law" "law" s_law a.f_law a.d_law
  mg_in_turn : mg "in_turn" = some (.ref a.f_in_turn)
  fn_in_turn : Fun K "in_turn" "in_turn" s_in_turn a.f_in_turn a.d_in_turn
  mg_tables_of : mg "tables_of" = some (.ref a.f_tables_of)
  fn_tables_of : Fun K "tables_of" "tables_of" s_tables_of a.f_tables_of a.d_tables_of
  mg_parting : mg "parting" = some (.ref a.f_parting)
  fn_parting : Fun K "parting" "parting" s_parting a.f_parting a.d_parting
  mg__law_text : mg "_law_text" = some (.ref a.f__law_text)
  fn__law_text : Fun K "_law_text" "_law_text" s__law_text a.f__law_text a.d__law_text
  mg__law_change : mg "_law_change" = some (.ref a.f__law_change)
  fn__law_change : Fun K "_law_change" "_law_change" s__law_change a.f__law_change a.d__law_change
  mg__law_change_text : mg "_law_change_text" = some (.ref a.f__law_change_text)
  fn__law_change_text : Fun K "_law_change_text" "_law_change_text" s__law_change_text a.f__law_change_text a.d__law_change_text
  mg__law_change_done : mg "_law_change_done" = some (.ref a.f__law_change_done)
  fn__law_change_done : Fun K "_law_change_done" "_law_change_done" s__law_change_done a.f__law_change_done a.d__law_change_done
  mg__law_again : mg "_law_again" = some (.ref a.f__law_again)
  fn__law_again : Fun K "_law_again" "_law_again" s__law_again a.f__law_again a.d__law_again
  mg__law_parting : mg "_law_parting" = some (.ref a.f__law_parting)
  fn__law_parting : Fun K "_law_parting" "_law_parting" s__law_parting a.f__law_parting a.d__law_parting
  mg__law_joined_right : mg "_law_joined_right" = some (.ref a.f__law_joined_right)
  fn__law_joined_right : Fun K "_law_joined_right" "_law_joined_right" s__law_joined_right a.f__law_joined_right a.d__law_joined_right
  mg_Mode : mg "Mode" = some (.ref a.f_Mode)
  c_Mode : Cls K a.f_Mode
  n_number_Mode : NoAttr K a.f_Mode "_number"
  mk_Mode : Mk K a.f_Mode a.f_ModeD_initD
  fn_ModeD_initD : Fun K "__init__" "Mode.__init__" s_ModeD_initD a.f_ModeD_initD a.d_ModeD_initD
  p_Mode_number : PropOf K a.f_Mode "number" a.p_Mode_number a.f_Mode_number
  fn_Mode_number : Fun K "number" "Mode.number" s_Mode_number a.f_Mode_number a.d_Mode_number
  m_ModeD_strD : Meth K a.f_Mode "__str__" a.f_ModeD_strD
  fn_ModeD_strD : Fun K "__str__" "Mode.__str__" s_ModeD_strD a.f_ModeD_strD a.d_ModeD_strD
  m_ModeD_eqD : Meth K a.f_Mode "__eq__" a.f_ModeD_eqD
  fn_ModeD_eqD : Fun K "__eq__" "Mode.__eq__" s_ModeD_eqD a.f_ModeD_eqD a.d_ModeD_eqD
  r_Mode : ClX.CRead K a.f_Mode (.type "type")
  k_Mode_MOST : ∃ t, ClX.CVal K a.f_Mode (.type "type") "MOST" (.int 511) (.int 511 t)
  m_Mode_uniform : SMet K a.f_Mode "uniform" a.p_Mode_uniform a.f_Mode_uniform
  fn_Mode_uniform : Fun K "uniform" "Mode.uniform" s_Mode_uniform a.f_Mode_uniform a.d_Mode_uniform
  ia_Mode : PySem.W.findIn K (.ref a.f_Mode) "__class__" = some (some (.builtin "object.__class__"))
  im_Mode : PySem.W.mroIn K a.f_Mode (.type "object") = some true
  is_Mode : PySem.W.kitOne K (.ref a.f_Mode) (.ref a.f_Mode) = some true
  ii_Mode : PySem.W.kitOne K (.type "int") (.ref a.f_Mode) = some false
  mg_Clause : mg "Clause" = some (.ref a.f_Clause)
  c_Clause : Cls K a.f_Clause
  n_who_Clause : NoAttr K a.f_Clause "_who"
  n_sign_Clause : NoAttr K a.f_Clause "_sign"
  n_what_Clause : NoAttr K a.f_Clause "_what"
  n_tables_Clause : NoAttr K a.f_Clause "_tables"
  mk_Clause : Mk K a.f_Clause a.f_ClauseD_initD
  fn_ClauseD_initD : Fun K "__init__" "Clause.__init__" s_ClauseD_initD a.f_ClauseD_initD a.d_ClauseD_initD
  p_Clause_who : PropOf K a.f_Clause "who" a.p_Clause_who a.f_Clause_who
  fn_Clause_who : Fun K "who" "Clause.who" s_Clause_who a.f_Clause_who a.d_Clause_who
  p_Clause_sign : PropOf K a.f_Clause "sign" a.p_Clause_sign a.f_Clause_sign
  fn_Clause_sign : Fun K "sign" "Clause.sign" s_Clause_sign a.f_Clause_sign a.d_Clause_sign
  p_Clause_what : PropOf K a.f_Clause "what" a.p_Clause_what a.f_Clause_what
  fn_Clause_what : Fun K "what" "Clause.what" s_Clause_what a.f_Clause_what a.d_Clause_what
  m_ClauseD_eqD : Meth K a.f_Clause "__eq__" a.f_ClauseD_eqD
  fn_ClauseD_eqD : Fun K "__eq__" "Clause.__eq__" s_ClauseD_eqD a.f_ClauseD_eqD a.d_ClauseD_eqD
  o_Clause : StX.CallO K a.f_Clause a.f_ClauseD_callD
  fn_ClauseD_callD : Fun K "__call__" "Clause.__call__" s_ClauseD_callD a.f_ClauseD_callD a.d_ClauseD_callD
  m_Clause_read : ClX.CMet K a.f_Clause (.type "type") "read" a.p_Clause_read a.f_Clause_read
  fn_Clause_read : Fun K "read" "Clause.read" s_Clause_read a.f_Clause_read a.d_Clause_read
  r_Clause : ClX.CRead K a.f_Clause (.type "type")
  ia_Clause : PySem.W.findIn K (.ref a.f_Clause) "__class__" = some (some (.builtin "object.__class__"))
  im_Clause : PySem.W.mroIn K a.f_Clause (.type "object") = some true
  is_Clause : PySem.W.kitOne K (.ref a.f_Clause) (.ref a.f_Clause) = some true
  ii_Clause : PySem.W.kitOne K (.type "int") (.ref a.f_Clause) = some false
  mg_Change : mg "Change" = some (.ref a.f_Change)
  c_Change : Cls K a.f_Change
  n_clauses_Change : NoAttr K a.f_Change "_clauses"
  n_tables_Change : NoAttr K a.f_Change "_tables"
  mk_Change : Mk K a.f_Change a.f_ChangeD_initD
  fn_ChangeD_initD : Fun K "__init__" "Change.__init__" s_ChangeD_initD a.f_ChangeD_initD a.d_ChangeD_initD
  p_Change_clauses : PropOf K a.f_Change "clauses" a.p_Change_clauses a.f_Change_clauses
  fn_Change_clauses : Fun K "clauses" "Change.clauses" s_Change_clauses a.f_Change_clauses a.d_Change_clauses
  p_Change_tables : PropOf K a.f_Change "tables" a.p_Change_tables a.f_Change_tables
  fn_Change_tables : Fun K "tables" "Change.tables" s_Change_tables a.f_Change_tables a.d_Change_tables
  m_Change_like : Meth K a.f_Change "like" a.f_Change_like
  fn_Change_like : Fun K "like" "Change.like" s_Change_like a.f_Change_like a.d_Change_like
  m_ChangeD_mulD : Meth K a.f_Change "__mul__" a.f_ChangeD_mulD
  fn_ChangeD_mulD : Fun K "__mul__" "Change.__mul__" s_ChangeD_mulD a.f_ChangeD_mulD a.d_ChangeD_mulD
  m_ChangeD_eqD : Meth K a.f_Change "__eq__" a.f_ChangeD_eqD
  fn_ChangeD_eqD : Fun K "__eq__" "Change.__eq__" s_ChangeD_eqD a.f_ChangeD_eqD a.d_ChangeD_eqD
  r_Change : ClX.CRead K a.f_Change (.type "type")
  k_Change_MOST : ∃ t, ClX.CVal K a.f_Change (.type "type") "MOST" (.int 8) (.int 8 t)
  o_Change : StX.CallO K a.f_Change a.f_ChangeD_callD
  fn_ChangeD_callD : Fun K "__call__" "Change.__call__" s_ChangeD_callD a.f_ChangeD_callD a.d_ChangeD_callD
  m_Change_read : ClX.CMet K a.f_Change (.type "type") "read" a.p_Change_read a.f_Change_read
  fn_Change_read : Fun K "read" "Change.read" s_Change_read a.f_Change_read a.d_Change_read
  ia_Change : PySem.W.findIn K (.ref a.f_Change) "__class__" = some (some (.builtin "object.__class__"))
  im_Change : PySem.W.mroIn K a.f_Change (.type "object") = some true
  is_Change : PySem.W.kitOne K (.ref a.f_Change) (.ref a.f_Change) = some true
  ii_Change : PySem.W.kitOne K (.type "int") (.ref a.f_Change) = some false
  in_ : PySem.W.specialIn K (.builtin "object.__class__") "__get__" = some (some (.builtin "getset_descriptor.__get__"))
  it_ : PySem.W.takesIn K (.builtin "object.__class__") = some true
  sf_Change : PySem.W.selfFirst K a.f_Change = true
  ne_Mode : PySem.W.findIn K (.ref a.f_Mode) "__ne__" = some (some (.builtin "object.__ne__"))
  nf_Mode : PySem.W.notFirst K a.f_Mode (.ref a.f_Mode) = true
  mg_BadClause : mg "BadClause" = some (.ref a.x_BadClause)
  mg_SIGNS : mg "SIGNS" = some (.ref a.k_SIGNS)
  t_SIGNS : ∀ H, SqT K H a.k_SIGNS [.str "+", .str "-", .str "="]
  mg_PATTERNS : mg "PATTERNS" = some (.ref a.k_PATTERNS)
  t_PATTERNS : ∀ H, SqT K H a.k_PATTERNS ([0, 1, 2, 3, 4, 5, 6, 7].map V.int)
  mg_NINE_BITS : mg "NINE_BITS" = some (.ref a.k_NINE_BITS)
  t_NINE_BITS : ∀ H, SqT K H a.k_NINE_BITS ([256, 128, 64, 32, 16, 8, 4, 2, 1].map V.int)
  mg_NINE_SIGNS : ∃ t, mg "NINE_SIGNS" = some (.str "rwxrwxrwx" t)
  mg_PARTS : mg "PARTS" = some (.ref a.k_PARTS)
  t_PARTS : ∀ H, ∃ p1 p2 p3 p4 : Addr, SqT K H a.k_PARTS [.ref p1, .ref p2, .ref p3, .ref p4] ∧ SqT K H p1 [.str "r", .str "file"] ∧ SqT K H p2 [.str "w", .str "file"] ∧ SqT K H p3 [.str "x", .str "file"] ∧ SqT K H p4 [.str "x", .str "folder"]
  mg_CLASSES : mg "CLASSES" = some (.ref a.k_CLASSES)
  d_CLASSES : ∃ es n, KDict K w a.k_CLASSES es n ∧ (∃ t, PySem.W.nsIn K a.k_CLASSES "u" = some (some (.int 4 t))) ∧ (∃ t, PySem.W.nsIn K a.k_CLASSES "g" = some (some (.int 2 t))) ∧ (∃ t, PySem.W.nsIn K a.k_CLASSES "o" = some (some (.int 1 t))) ∧ ∀ z ∈ whats, PySem.W.nsIn K a.k_CLASSES z = some none
  mg_FORMS : mg "FORMS" = some (.ref a.k_FORMS)
  t_FORMS : ∀ H, SqT K H a.k_FORMS [.str "file", .str "folder"]
theorem bd_is_whole {w : World} {K : PySem.W.Frag} {mg : Str → Option Value} {a : Ads} (T : Txt w K mg a) : Binds K a.d_is_whole ["value"] [] := T.fn_is_whole.binds (ps := ["value"]) fun _ _ _ _ _ _ us hl => match us, hl with | [_], _ => rfl
theorem bd_is_whole_to {w : World} {K : PySem.W.Frag} {mg : Str → Option Value} {a : Ads} (T : Txt w K mg a) : Binds K a.d_is_whole_to ["value", "most"] [] := T.fn_is_whole_to.binds (ps := ["value", "most"]) fun _ _ _ _ _ _ us hl => match us, hl with | [_, _], _ => rfl
theorem bd_is_choice {w : World} {K : PySem.W.Frag} {mg : Str → Option Value} {a : Ads} (T : Txt w K mg a) : Binds K a.d_is_choice ["value", "letters"] [] := T.fn_is_choice.binds (ps := ["value", "letters"]) fun _ _ _ _ _ _ us hl => match us, hl with | [_, _], _ => rfl
theorem bd_pattern_in {w : World} {K : PySem.W.Frag} {mg : Str → Option Value} {a : Ads} (T : Txt w K mg a) : Binds K a.d_pattern_in ["number", "weight"] [] := T.fn_pattern_in.binds (ps := ["number", "weight"]) fun _ _ _ _ _ _ us hl => match us, hl with | [_, _], _ => rfl
theorem bd_bits_of {w : World} {K : PySem.W.Frag} {mg : Str → Option Value} {a : Ads} (T : Txt w K mg a) : Binds K a.d_bits_of ["pattern", "weight"] [] := T.fn_bits_of.binds (ps := ["pattern", "weight"]) fun _ _ _ _ _ _ us hl => match us, hl with | [_, _], _ => rfl
theorem bd_number_of {w : World} {K : PySem.W.Frag} {mg : Str → Option Value} {a : Ads} (T : Txt w K mg a) : Binds K a.d_number_of ["mode"] [] := T.fn_number_of.binds (ps := ["mode"]) fun _ _ _ _ _ _ us hl => match us, hl with | [_], _ => rfl
theorem bd_is_meant {w : World} {K : PySem.W.Frag} {mg : Str → Option Value} {a : Ads} (T : Txt w K mg a) : Binds K a.d_is_meant ["what", "letter", "pattern", "form"] [] := T.fn_is_meant.binds (ps := ["what", "letter", "pattern", "form"]) fun _ _ _ _ _ _ us hl => match us, hl with | [_, _, _, _], _ => rfl
theorem bd_pattern_behind {w : World} {K : PySem.W.Frag} {mg : Str → Option Value} {a : Ads} (T : Txt w K mg a) : Binds K a.d_pattern_behind ["mask", "sign", "meant", "pattern"] [] := T.fn_pattern_behind.binds (ps := ["mask", "sign", "meant", "pattern"]) fun _ _ _ _ _ _ us hl => match us, hl with | [_, _, _, _], _ => rfl
theorem bd_part_of {w : World} {K : PySem.W.Frag} {mg : Str → Option Value} {a : Ads} (T : Txt w K mg a) : Binds K a.d_part_of ["who", "sign", "what", "letter", "form"] [] := T.fn_part_of.binds (ps := ["who", "sign", "what", "letter", "form"]) fun _ _ _ _ _ _ us hl => match us, hl with | [_, _, _, _, _], _ => rfl
theorem bd_parts_for {w : World} {K : PySem.W.Frag} {mg : Str → Option Value} {a : Ads} (T : Txt w K mg a) : Binds K a.d_parts_for ["tables", "form"] [] := T.fn_parts_for.binds (ps := ["tables", "form"]) fun _ _ _ _ _ _ us hl => match us, hl with | [_, _], _ => rfl
theorem bd_number_behind {w : World} {K : PySem.W.Frag} {mg : Str → Option Value} {a : Ads} (T : Txt w K mg a) : Binds K a.d_number_behind ["tables", "number", "form"] [] := T.fn_number_behind.binds (ps := ["tables", "number", "form"]) fun _ _ _ _ _ _ us hl => match us, hl with | [_, _, _], _ => rfl
theorem bd__law_pen {w : World} {K : PySem.W.Frag} {mg : Str → Option Value} {a : Ads} (T : Txt w K mg a) : Binds K a.d__law_pen ["_law_script"] [] := T.fn__law_pen.binds (ps := ["_law_script"]) fun _ _ _ _ _ _ us hl => match us, hl with | [_], _ => rfl
theorem bd__law_draw {w : World} {K : PySem.W.Frag} {mg : Str → Option Value} {a : Ads} (T : Txt w K mg a) : Binds K a.d__law_draw ["_law_pen_here", "_law_many"] [] := T.fn__law_draw.binds (ps := ["_law_pen_here", "_law_many"]) fun _ _ _ _ _ _ us hl => match us, hl with | [_, _], _ => rfl
theorem bd__law_pick {w : World} {K : PySem.W.Frag} {mg : Str → Option Value} {a : Ads} (T : Txt w K mg a) : Binds K a.d__law_pick ["_law_pen_here", "_law_some"] [] := T.fn__law_pick.binds (ps := ["_law_pen_here", "_law_some"]) fun _ _ _ _ _ _ us hl => match us, hl with | [_, _], _ => rfl
theorem bd__law_clause {w : World} {K : PySem.W.Frag} {mg : Str → Option Value} {a : Ads} (T : Txt w K mg a) : Binds K a.d__law_clause ["_law_pen_here"] [] := T.fn__law_clause.binds (ps := ["_law_pen_here"]) fun _ _ _ _ _ _ us hl => match us, hl with | [_], _ => rfl
theorem bd__law_clause_done {w : World} {K : PySem.W.Frag} {mg : Str → Option Value} {a : Ads} (T : Txt w K mg a) : Binds K a.d__law_clause_done ["_law_told", "_law_number", "_law_form"] [] := T.fn__law_clause_done.binds (ps := ["_law_told", "_law_number", "_law_form"]) fun _ _ _ _ _ _ us hl => match us, hl with | [_, _, _], _ => rfl
theorem bd_law {w : World} {K : PySem.W.Frag} {mg : Str → Option Value} {a : Ads} (T : Txt w K mg a) : Binds K a.d_law ["_law_script"] [] := T.fn_law.binds (ps := ["_law_script"]) fun _ _ _ _ _ _ us hl => match us, hl with | [_], _ => rfl
theorem bd_in_turn {w : World} {K : PySem.W.Frag} {mg : Str → Option Value} {a : Ads} (T : Txt w K mg a) : Binds K a.d_in_turn ["one", "other"] [] := T.fn_in_turn.binds (ps := ["one", "other"]) fun _ _ _ _ _ _ us hl => match us, hl with | [_, _], _ => rfl
theorem bd_tables_of {w : World} {K : PySem.W.Frag} {mg : Str → Option Value} {a : Ads} (T : Txt w K mg a) : Binds K a.d_tables_of ["clauses"] [] := T.fn_tables_of.binds (ps := ["clauses"]) fun _ _ _ _ _ _ us hl => match us, hl with | [_], _ => rfl
theorem bd_parting {w : World} {K : PySem.W.Frag} {mg : Str → Option Value} {a : Ads} (T : Txt w K mg a) : Binds K a.d_parting ["one", "other"] [] := T.fn_parting.binds (ps := ["one", "other"]) fun _ _ _ _ _ _ us hl => match us, hl with | [_, _], _ => rfl
theorem bd__law_text {w : World} {K : PySem.W.Frag} {mg : Str → Option Value} {a : Ads} (T : Txt w K mg a) : Binds K a.d__law_text ["_law_told"] [] := T.fn__law_text.binds (ps := ["_law_told"]) fun _ _ _ _ _ _ us hl => match us, hl with | [_], _ => rfl
theorem bd__law_change {w : World} {K : PySem.W.Frag} {mg : Str → Option Value} {a : Ads} (T : Txt w K mg a) : Binds K a.d__law_change ["_law_pen_here", "_law_most"] [] := T.fn__law_change.binds (ps := ["_law_pen_here", "_law_most"]) fun _ _ _ _ _ _ us hl => match us, hl with | [_, _], _ => rfl
theorem bd__law_change_text {w : World} {K : PySem.W.Frag} {mg : Str → Option Value} {a : Ads} (T : Txt w K mg a) : Binds K a.d__law_change_text ["_law_change_here"] [] := T.fn__law_change_text.binds (ps := ["_law_change_here"]) fun _ _ _ _ _ _ us hl => match us, hl with | [_], _ => rfl
theorem bd__law_change_done {w : World} {K : PySem.W.Frag} {mg : Str → Option Value} {a : Ads} (T : Txt w K mg a) : Binds K a.d__law_change_done ["_law_change_here", "_law_number", "_law_form"] [] := T.fn__law_change_done.binds (ps := ["_law_change_here", "_law_number", "_law_form"]) fun _ _ _ _ _ _ us hl => match us, hl with | [_, _, _], _ => rfl
theorem bd__law_again {w : World} {K : PySem.W.Frag} {mg : Str → Option Value} {a : Ads} (T : Txt w K mg a) : Binds K a.d__law_again ["_law_pen_here", "_law_told"] [] := T.fn__law_again.binds (ps := ["_law_pen_here", "_law_told"]) fun _ _ _ _ _ _ us hl => match us, hl with | [_, _], _ => rfl
theorem bd__law_parting {w : World} {K : PySem.W.Frag} {mg : Str → Option Value} {a : Ads} (T : Txt w K mg a) : Binds K a.d__law_parting ["_law_one_so", "_law_other_so"] [] := T.fn__law_parting.binds (ps := ["_law_one_so", "_law_other_so"]) fun _ _ _ _ _ _ us hl => match us, hl with | [_, _], _ => rfl
theorem bd__law_joined_right {w : World} {K : PySem.W.Frag} {mg : Str → Option Value} {a : Ads} (T : Txt w K mg a) : Binds K a.d__law_joined_right ["_law_pen_here", "_law_told"] [] := T.fn__law_joined_right.binds (ps := ["_law_pen_here", "_law_told"]) fun _ _ _ _ _ _ us hl => match us, hl with | [_, _], _ => rfl
theorem bd_ModeD_initD {w : World} {K : PySem.W.Frag} {mg : Str → Option Value} {a : Ads} (T : Txt w K mg a) : Binds K a.d_ModeD_initD ["self", "number"] [] := T.fn_ModeD_initD.binds (ps := ["self", "number"]) fun _ _ _ _ _ _ us hl => match us, hl with | [_, _], _ => rfl
theorem bd_Mode_number {w : World} {K : PySem.W.Frag} {mg : Str → Option Value} {a : Ads} (T : Txt w K mg a) : Binds K a.d_Mode_number ["self"] [] := T.fn_Mode_number.binds (ps := ["self"]) fun _ _ _ _ _ _ us hl => match us, hl with | [_], _ => rfl
theorem bd_ModeD_strD {w : World} {K : PySem.W.Frag} {mg : Str → Option Value} {a : Ads} (T : Txt w K mg a) : Binds K a.d_ModeD_strD ["self"] [] := T.fn_ModeD_strD.binds (ps := ["self"]) fun _ _ _ _ _ _ us hl => match us, hl with | [_], _ => rfl
theorem bd_ModeD_eqD {w : World} {K : PySem.W.Frag} {mg : Str → Option Value} {a : Ads} (T : Txt w K mg a) : Binds K a.d_ModeD_eqD ["self", "other"] [] := T.fn_ModeD_eqD.binds (ps := ["self", "other"]) fun _ _ _ _ _ _ us hl => match us, hl with | [_, _], _ => rfl
theorem bd_Mode_uniform {w : World} {K : PySem.W.Frag} {mg : Str → Option Value} {a : Ads} (T : Txt w K mg a) : Binds K a.d_Mode_uniform ["pattern"] [] := T.fn_Mode_uniform.binds (ps := ["pattern"]) fun _ _ _ _ _ _ us hl => match us, hl with | [_], _ => rfl
theorem bd_ClauseD_initD {w : World} {K : PySem.W.Frag} {mg : Str → Option Value} {a : Ads} (T : Txt w K mg a) : Binds K a.d_ClauseD_initD ["self", "who", "sign", "what"] [] := T.fn_ClauseD_initD.binds (ps := ["self", "who", "sign", "what"]) fun _ _ _ _ _ _ us hl => match us, hl with | [_, _, _, _], _ => rfl
theorem bd_Clause_who {w : World} {K : PySem.W.Frag} {mg : Str → Option Value} {a : Ads} (T : Txt w K mg a) : Binds K a.d_Clause_who ["self"] [] := T.fn_Clause_who.binds (ps := ["self"]) fun _ _ _ _ _ _ us hl => match us, hl with | [_], _ => rfl
theorem bd_Clause_sign {w : World} {K : PySem.W.Frag} {mg : Str → Option Value} {a : Ads} (T : Txt w K mg a) : Binds K a.d_Clause_sign ["self"] [] := T.fn_Clause_sign.binds (ps := ["self"]) fun _ _ _ _ _ _ us hl => match us, hl with | [_], _ => rfl
theorem bd_Clause_what {w : World} {K : PySem.W.Frag} {mg : Str → Option Value} {a : Ads} (T : Txt w K mg a) : Binds K a.d_Clause_what ["self"] [] := T.fn_Clause_what.binds (ps := ["self"]) fun _ _ _ _ _ _ us hl => match us, hl with | [_], _ => rfl
theorem bd_ClauseD_eqD {w : World} {K : PySem.W.Frag} {mg : Str → Option Value} {a : Ads} (T : Txt w K mg a) : Binds K a.d_ClauseD_eqD ["self", "other"] [] := T.fn_ClauseD_eqD.binds (ps := ["self", "other"]) fun _ _ _ _ _ _ us hl => match us, hl with | [_, _], _ => rfl
theorem bd_Clause_read {w : World} {K : PySem.W.Frag} {mg : Str → Option Value} {a : Ads} (T : Txt w K mg a) : Binds K a.d_Clause_read ["cls", "text"] [] := T.fn_Clause_read.binds (ps := ["cls", "text"]) fun _ _ _ _ _ _ us hl => match us, hl with | [_, _], _ => rfl
theorem bd_ClauseD_callD {w : World} {K : PySem.W.Frag} {mg : Str → Option Value} {a : Ads} (T : Txt w K mg a) : Binds K a.d_ClauseD_callD ["self", "mode", "form"] [] := T.fn_ClauseD_callD.binds (ps := ["self", "mode", "form"]) fun _ _ _ _ _ _ us hl => match us, hl with | [_, _, _], _ => rfl
theorem bd_Change_clauses {w : World} {K : PySem.W.Frag} {mg : Str → Option Value} {a : Ads} (T : Txt w K mg a) : Binds K a.d_Change_clauses ["self"] [] := T.fn_Change_clauses.binds (ps := ["self"]) fun _ _ _ _ _ _ us hl => match us, hl with | [_], _ => rfl
theorem bd_Change_tables {w : World} {K : PySem.W.Frag} {mg : Str → Option Value} {a : Ads} (T : Txt w K mg a) : Binds K a.d_Change_tables ["self"] [] := T.fn_Change_tables.binds (ps := ["self"]) fun _ _ _ _ _ _ us hl => match us, hl with | [_], _ => rfl
theorem bd_Change_like {w : World} {K : PySem.W.Frag} {mg : Str → Option Value} {a : Ads} (T : Txt w K mg a) : Binds K a.d_Change_like ["self", "other"] [] := T.fn_Change_like.binds (ps := ["self", "other"]) fun _ _ _ _ _ _ us hl => match us, hl with | [_, _], _ => rfl
theorem bd_ChangeD_mulD {w : World} {K : PySem.W.Frag} {mg : Str → Option Value} {a : Ads} (T : Txt w K mg a) : Binds K a.d_ChangeD_mulD ["self", "other"] [] := T.fn_ChangeD_mulD.binds (ps := ["self", "other"]) fun _ _ _ _ _ _ us hl => match us, hl with | [_, _], _ => rfl
theorem bd_ChangeD_eqD {w : World} {K : PySem.W.Frag} {mg : Str → Option Value} {a : Ads} (T : Txt w K mg a) : Binds K a.d_ChangeD_eqD ["self", "other"] [] := T.fn_ChangeD_eqD.binds (ps := ["self", "other"]) fun _ _ _ _ _ _ us hl => match us, hl with | [_, _], _ => rfl
theorem bd_Change_read {w : World} {K : PySem.W.Frag} {mg : Str → Option Value} {a : Ads} (T : Txt w K mg a) : Binds K a.d_Change_read ["cls", "text"] [] := T.fn_Change_read.binds (ps := ["cls", "text"]) fun _ _ _ _ _ _ us hl => match us, hl with | [_, _], _ => rfl
theorem bd_ChangeD_callD {w : World} {K : PySem.W.Frag} {mg : Str → Option Value} {a : Ads} (T : Txt w K mg a) : Binds K a.d_ChangeD_callD ["self", "mode", "form"] [] := T.fn_ChangeD_callD.binds (ps := ["self", "mode", "form"]) fun _ _ _ _ _ _ us hl => match us, hl with | [_, _, _], _ => rfl
end KY
set_option Elab.async false
set_option linter.all false
set_option maxRecDepth 100000
set_option maxHeartbeats 4000000
namespace KY
open PySem PySem.Spec PyProof.Rows L2 Evl
local macro_rules | `(tactic| walk_at "ev") => `(tactic| repeat' (first | exact ev_c | exact ev_var rfl | exact rv_I0 | refine' rv_I ?_ | refine' rv_eq ?_ | refine' rv_ne ?_ | refine' ev_op ?_ ?_ ?_ | exact ea_nil | refine' ea_cons ?_ ?_ | refine' et_test ?_ | refine' et_B ?_ | refine' et_not ?_ | refine' ev_notV ?_))
/-! what a value evaluates to: further words -/
/-- a new instance -/
def EvI (te : TE) (σ : L2.St) (H : Hp) (C : Addr) (fs : List (Str × V)) : Prop := ∀ H1, Ex H H1 → ∀ Q : VK, (∀ p dx H2, H1 p = none → Ex H1 H2 → H2 p = some (.ins C dx fs) → Q (.ref p) H2) → te σ H1 Q
/-- a tuple, made or old -/
def EvW (K : PySem.W.Frag) (te : TE) (σ : L2.St) (H : Hp) (xs : List V) : Prop := ∀ H1, Ex H H1 → ∀ Q : VK, (∀ p H2, Ex H1 H2 → SqT K H2 p xs → Q (.ref p) H2) → te σ H1 Q
section
variable {σ : L2.St} {K : PySem.W.Frag} {H H' : Hp} {tx te ta tb : TE} {u t : TT} {v x y z : V} {r : R2}
theorem ev_isi {ta : TA} {c : V} {t u : Value} {b : Bool} (ha : EvA ta σ H [x, c]) (k : ClsV c u) (ty : ∀ H', Ex H H' → TyX K H' x t) (e : PySem.W.kitOne K t u = some b) : Ev (tCB (rIsi K) ta) σ H (.bl b) := fun H1 e1 Q q =>
  ha H1 e1 _ fun H2 e2 => ⟨x, c, t, u, b, rfl, k, ty H2 (e1.trans e2), e, q H2 e2⟩
theorem ev_chain {r r' : R2} {tc : TE} {k1 k2 : Bool} {z : V} (ha : Ev ta σ H x) (hb : Ev tb σ H y) (h1 : RV r x y H (.bl k1)) (hc : k1 = true → Ev tc σ H z ∧ RV r' y z H (.bl k2)) : Ev (tChain r r' ta tb tc) σ H (.bl (k1 && k2)) := fun H1 e1 Q q =>
  ha H1 e1 _ fun H2 e2 => hb H2 (e1.trans e2) _ fun H3 e3 => h1 H3 ((e1.trans e2).trans e3) _ fun H4 e4 => ⟨k1, rfl, by
    cases k1 with
    | true =>
      obtain ⟨h3, h4⟩ := hc rfl
      exact h3 H4 (((e1.trans e2).trans e3).trans e4) _ fun H5 e5 => h4 H5 ((((e1.trans e2).trans e3).trans e4).trans e5) _ fun H6 e6 => q H6 ((((e2.trans e3).trans e4).trans e5).trans e6)
    | false => exact q H4 ((e2.trans e3).trans e4)⟩
theorem ev_cval {ta : TE} {C : Addr} {mc : Value} {f : Str} {u : Value} (h : Ev ta σ H (.ref C)) (r : ClX.CRead K C mc) (k : ClX.CVal K C mc f v u) : Ev (ClX.tCVal K ta f) σ H v := fun H1 e Q q => h H1 e _ fun H2 e2 => ⟨C, mc, v, u, rfl, r, k, q H2 e2⟩
theorem ev_prop {C a : Addr} {dx : Addr} {fs : List (Str × V)} {sp : Sp} {E : XK} (h : Ev ta σ H (.ref a)) (ho : H a = some (.ins C dx fs)) (hs : SpV sp [.ref a] H v) : Ev (tProp C sp [] E ta) σ H v := fun H1 e Q q =>
  h H1 e _ fun H2 e2 => ⟨a, dx, fs, rfl, e2 _ _ (e _ _ ho), hs H2 (e.trans e2) Q (fun H3 e3 => q H3 (e2.trans e3)) E⟩
theorem ev_fld {C a : Addr} {dx : Addr} {fs : List (Str × V)} {f : Str} (h : Ev ta σ H (.ref a)) (ho : H a = some (.ins C dx fs)) (c : Cls K C) (n : NoAttr K C f) (l : fs.lookup f = some v) : Ev (tFld K ta f) σ H v := fun H1 e Q q =>
  h H1 e _ fun H2 e2 => ⟨a, C, dx, fs, v, rfl, e2 _ _ (e _ _ ho), c, n, l, q H2 e2⟩
theorem spv_get {C a : Addr} {dx : Addr} {fs : List (Str × V)} {f : Str} (ho : H a = some (.ins C dx fs)) (l : fs.lookup f = some v) : SpV (getSp C f) [.ref a] H v := fun H1 e Q q E => ⟨a, dx, fs, v, rfl, e _ _ ho, l, q H1 (Ex.refl _)⟩
end
/-! promises -/
def spTrue1 : Sp := fun vs H Q _ => ∃ i : Int, vs = [.int i] ∧ ∀ H', Ex H H' → Q (.bl true) H'
def spTrue2 : Sp := fun vs H Q _ => ∃ i m : Int, vs = [.int i, .int m] ∧ 0 ≤ i ∧ i ≤ m ∧ ∀ H', Ex H H' → Q (.bl true) H'
/-- a Mode of number n stands at p -/
def ModeAt (a : Ads) (H : Hp) (p : Addr) (n : Nat) : Prop := ∃ dx, H p = some (.ins a.f_Mode dx [(("_number" : Str), .int n)])
theorem ModeAt.mono {a : Ads} {H H' : Hp} {p : Addr} {n : Nat} (m : ModeAt a H p n) (e : Ex H H') : ModeAt a H' p n := by
  obtain ⟨dx, h⟩ := m
  exact ⟨dx, e _ _ h⟩
def spMode (a : Ads) : Sp := fun vs H Q _ => ∃ (p dx : Addr) (n : Nat), vs = [.ref p, .int n] ∧ n < 512 ∧ H p = some (.ins a.f_Mode dx []) ∧ ∀ H', (∀ b o, H b = some o → b ≠ p → H' b = some o) → H' p = some (.ins a.f_Mode dx [(("_number" : Str), .int n)]) → Q .non H'
def spNum (a : Ads) : Sp := fun vs H Q _ => ∃ (v : V) (n : Nat), vs = [v] ∧ n < 512 ∧ (v = .int n ∨ ∃ p, v = .ref p ∧ ModeAt a H p n) ∧ ∀ H', Ex H H' → Q (.int n) H'
section
variable {P : Program} {w : World} {K : PySem.W.Frag} {mg : Str → Option Value} {base : Heap} {a : Ads}
theorem ok_is_whole (T : Txt w K mg a) : FnOk P w K mg base CX0 1 a.f_is_whole a.d_is_whole ["value"] spTrue1 := by
  refine T.fn_is_whole.ok sc_is_whole (fun vs H Q E h => ?_) (fun cdv A outer s H vs Q E hr h => ?_)
  · obtain ⟨_, rfl, _⟩ := h
    rfl
  · obtain ⟨i, rfl, k⟩ := h
    refine ⟨_, (pss_one (ps_ret (pe_and (pe_callB call_isi (by rfl) T.b_isinstance PyProof.Rows.boot_isinstance (pa_cons (pv 0) (pa_cons (pe_bltn (v := .ty "int") (by rfl) T.b_int (by decide +kernel) rfl) pa_nil))) (pe_one (pe_not (pe_callB call_isi (by rfl) T.b_isinstance PyProof.Rows.boot_isinstance (pa_cons (pv 0) (pa_cons (pe_bltn (v := .ty "bool") (by rfl) T.b_bool (by decide +kernel) rfl) pa_nil)))))))), ?_⟩
    refine s_ret (v := .bl true) (ev_andV (a := true) (ev_isi (by walk_at "ev") (.ty _) (fun _ _ => .base (.int i)) (kit_ty (by decide +kernel))) fun _ => ev_notV (a := false) (ev_isi (by walk_at "ev") (.ty _) (fun _ _ => .base (.int i)) (kit_ty (by decide +kernel)))) fun H1 e1 => ?_
    exact k H1 e1
theorem ok_is_whole_to (T : Txt w K mg a) : FnOk P w K mg base CX0 3 a.f_is_whole_to a.d_is_whole_to ["value", "most"] spTrue2 := by
  have G_is_whole : FnOk P w K mg base CX0 1 _ _ _ _ := ok_is_whole T
  refine T.fn_is_whole_to.ok sc_is_whole_to (fun vs H Q E h => ?_) (fun cdv A outer s H vs Q E hr h => ?_)
  · obtain ⟨_, _, rfl, _⟩ := h
    rfl
  · obtain ⟨i, m, rfl, h0, h1, k⟩ := h
    have hrc : Room 1 _ := hr.mono (by decide)
    refine ⟨_, (pss_one (ps_ret (pe_and (pe_call G_is_whole hrc rfl T.mg_is_whole T.fn_is_whole.kp (bd_is_whole T) .nil pass0 (pa_cons (pv 0) pa_nil)) (pe_one (pe_chain op_le op_le pe_int (pv 0) (pv 1)))))), ?_⟩
    refine s_ret (v := .bl true) (ev_is (ev_andV (a := true) (ev_call (vs := [.int i]) (by walk_at "ev") fun H1 e Q q E => ⟨i, rfl, q⟩) fun _ => ev_chain (by walk_at "ev") (by walk_at "ev") (by walk_at "ev") fun _ => ⟨by walk_at "ev", by walk_at "ev"⟩) ?_) fun H1 e1 => ?_
    · rw [decide_eq_true h0, decide_eq_true h1] <;> rfl
    exact k H1 e1
theorem ok_Mode_init (T : Txt w K mg a) : FnOk P w K mg base CX0 5 a.f_ModeD_initD a.d_ModeD_initD ["self", "number"] (spMode a) := by
  have G_is_whole_to : FnOk P w K mg base CX0 3 _ _ _ _ := ok_is_whole_to T
  refine T.fn_ModeD_initD.ok sc_ModeD_initD (fun vs H Q E h => ?_) (fun cdv A outer s H vs Q E hr h => ?_)
  · obtain ⟨_, _, _, rfl, _⟩ := h
    rfl
  · obtain ⟨p, dx, n, rfl, hn, hp, k⟩ := h
    have hrc : Room 3 _ := hr.mono (by decide)
    obtain ⟨tm, hm⟩ := T.k_Mode_MOST
    refine ⟨_, (pss_cons (ps_if (pt_not (pt_val (pe_call G_is_whole_to hrc rfl T.mg_is_whole_to T.fn_is_whole_to.kp (bd_is_whole_to T) .nil pass0 (pa_cons (pv 1) (pa_cons (ClX.pe_cval (pe_glob (v := .ref a.f_Mode) rfl T.mg_Mode rfl)) pa_nil))))) (pss_one ps_never) pss_nil)
    (pss_one (ps_fld (pv 0) (pv 1) rfl))), ?_⟩
    refine q_when (b := false) (et_not (a := true) (et_B (ev_call (vs := [.int n, .int 511]) (ea_cons (ev_var rfl) (ea_cons (ev_cval ev_c T.r_Mode hm) ea_nil)) fun H1 e Q q E => ⟨n, 511, rfl, by omega, by omega, q⟩))) (fun z => nomatch z) fun _ H1 e1 => ?_
    refine ⟨_, rfl, _, rfl, p, a.f_Mode, dx, [], rfl, e1 _ _ hp, T.c_Mode, T.n_number_Mode, (by show 0 < 1000; decide), ?_⟩
    exact k _ (fun b o hb ne => by rw [upd_ne ne]; exact e1 _ _ hb) upd_same
theorem ok_Mode_number (T : Txt w K mg a) : FnOk P w K mg base CX0 1 a.f_Mode_number a.d_Mode_number ["self"] (getSp a.f_Mode "_number") := by
  obtain ⟨oc, od, kV, doc, pm, an, cdv, ct, osl, e, lk, hcd⟩ := T.fn_Mode_number.ex
  rw [e]
  exact fn_getter (by rw [← e]; exact lk) hcd sc_Mode_number rfl rfl T.c_Mode T.n_number_Mode
theorem tyx_mode (T : Txt w K mg a) {H : Hp} {p : Addr} {n : Nat} (m : ModeAt a H p n) : TyX K H (.ref p) (.ref a.f_Mode) := by
  obtain ⟨dx, h⟩ := m
  exact .base (.ins h T.c_Mode T.ia_Mode T.in_ T.it_ T.im_Mode)
theorem ok_number_of (T : Txt w K mg a) : FnOk P w K mg base CX0 5 a.f_number_of a.d_number_of ["mode"] (spNum a) := by
  have G_is_whole_to : FnOk P w K mg base CX0 3 _ _ _ _ := ok_is_whole_to T
  have G_Mode_number : FnOk P w K mg base CX0 3 _ _ _ _ := (ok_Mode_number T).mono (by decide)
  refine T.fn_number_of.ok sc_number_of (fun vs H Q E h => ?_) (fun cdv A outer s H vs Q E hr h => ?_)
  · obtain ⟨_, _, rfl, _⟩ := h
    rfl
  · obtain ⟨v, n, rfl, hn, hv, k⟩ := h
    have hrm : Room 4 _ := hr
    have hrc : Room 3 _ := hr.mono (by decide)
    obtain ⟨tm, hm⟩ := T.k_Mode_MOST
    refine ⟨_, (pss_cons (ps_if (pt_val (pe_callB call_isi (by rfl) T.b_isinstance PyProof.Rows.boot_isinstance (pa_cons (pv 0) (pa_cons (pe_glob (v := .ref a.f_Mode) rfl T.mg_Mode rfl) pa_nil)))) (pss_one (ps_ret (pe_prop (pv 0) T.c_Mode T.p_Mode_number (G_Mode_number) hrm (bd_Mode_number T) .nil pass0 rfl))) pss_nil)
    (pss_cons (ps_if (pt_not (pt_val (pe_call G_is_whole_to hrc rfl T.mg_is_whole_to T.fn_is_whole_to.kp (bd_is_whole_to T) .nil pass0 (pa_cons (pv 0) (pa_cons (ClX.pe_cval (pe_glob (v := .ref a.f_Mode) rfl T.mg_Mode rfl)) pa_nil))))) (pss_one ps_never) pss_nil)
    (pss_one (ps_ret (pv 0))))), ?_⟩
    rcases hv with rfl | ⟨p, rfl, m⟩
    · refine q_when (b := false) (et_B (ev_isi (by walk_at "ev") (.own _) (fun _ _ => .base (.int n)) T.ii_Mode)) (fun z => nomatch z) fun _ H1 e1 => ?_
      refine q_when (b := false) (et_not (a := true) (et_B (ev_call (vs := [.int n, .int 511]) (ea_cons (ev_var rfl) (ea_cons (ev_cval ev_c T.r_Mode hm) ea_nil)) fun H1 e Q q E => ⟨n, 511, rfl, by omega, by omega, q⟩))) (fun z => nomatch z) fun _ H2 e2 => ?_
      exact s_ret (v := .int n) (ev_var rfl) fun H3 e3 => k H3 ((e1.trans e2).trans e3)
    · obtain ⟨dx, hp⟩ := id m
      refine q_when (b := true) (et_B (ev_isi (by walk_at "ev") (.own _) (fun H' e' => tyx_mode T (m.mono e')) T.is_Mode)) (fun _ H1 e1 => ?_) fun z => nomatch z
      refine s_ret (v := .int n) (ev_prop (ev_var rfl) (e1 _ _ hp) (spv_get (e1 _ _ hp) (by simp [List.lookup]))) fun H2 e2 => ?_
      exact k H2 (e1.trans e2)
end
end KY
set_option Elab.async false
set_option linter.all false
set_option maxRecDepth 100000
set_option maxHeartbeats 4000000
namespace KY
open PySem PySem.Spec PyProof.Rows L2 Evl
local macro_rules | `(tactic| walk_at "ev") => `(tactic| repeat' (first | exact ev_c | exact ev_var rfl | exact rv_I0 | refine' rv_I ?_ | refine' rv_eq ?_ | refine' rv_ne ?_ | refine' ev_op ?_ ?_ ?_ | exact ea_nil | refine' ea_cons ?_ ?_ | refine' et_test ?_ | refine' et_B ?_ | refine' et_not ?_ | refine' ev_notV ?_))

section
variable {σ : L2.St} {K : PySem.W.Frag} {H H' : Hp} {tx te ta tb : TE} {u t : TT} {v x y z : V} {r : R2}
/-- a comprehension over the signs of a text -/
theorem el_lcS {s : Str} {tl' : TE} {j : Nat} {vs : List Nat} (f : Nat → Bool) (v : Nat → V) (h : Ev tl' σ H (.str s)) (hz : s.cps.size ≤ 40000) (hw : ∀ x, wipe ((wipe σ vs).set j (some x)) vs = wipe σ vs)
    (ht : ∀ (i : Nat) (c : Nat) H1, Ex H H1 → s.cps[i]? = some c → EvT t ((wipe σ vs).set j (some (.str ⟨#[c]⟩))) H1 (f i)) (he : ∀ (i : Nat) (c : Nat) H1, Ex H H1 → s.cps[i]? = some c → f i = true → Ev te ((wipe σ vs).set j (some (.str ⟨#[c]⟩))) H1 (v i)) :
    EvL (tLc (iStr tl') (gName j) t te vs) σ H (given s.cps.size f v) := fun H0 e Q q => h H0 e _ fun H1 e1 => ⟨s, rfl, fun Dl hD =>
  ⟨fun i m H' => m = s.cps.size - i ∧ i ≤ s.cps.size ∧ Cw H1 f v Dl i H', ⟨s.cps.size, by simp, Nat.zero_le _, hD, Ex.new hD, upd_same⟩, by
    rintro i m H' ⟨rfl, hi, p⟩
    by_cases hlt : i < s.cps.size
    · refine .inr ⟨hlt, Cw H1 f v Dl (i + 1), fun H2 p' => ⟨s.cps.size - (i + 1), by omega, rfl, hlt, p'⟩, ?_⟩
      rintro x H2 ⟨rfl, c, hc, rfl⟩
      exact ⟨hw _, cw_turn p (by omega) (ht i c H1 (e.trans e1) hc) (fun hf => he i c H1 (e.trans e1) hc hf)⟩
    · have e2 : i = s.cps.size := by omega
      subst e2
      exact .inl ⟨Nat.le_refl _, q Dl H' (fresh_back e1 p.1) (e1.trans p.2.1) p.2.2⟩⟩⟩
/-- over a tuple -/
theorem el_lcT {a : Addr} {xs : List V} {tl : TE} {g : TG} {vs : List Nat} {σ' : V → L2.St} (f : Nat → Bool) (v : Nat → V) (h : Ev tl σ H (.ref a)) (hx : SqT K H a xs) (hz : xs.length ≤ 40000)
    (hg : ∀ (i : Nat) (x : V) H1 (Q : L2.St → Hp → Prop), Ex H H1 → xs[i]? = some x → Q (σ' x) H1 → g x (wipe σ vs) H1 Q) (hw : ∀ x, wipe (σ' x) vs = wipe σ vs)
    (ht : ∀ (i : Nat) (x : V) H1, Ex H H1 → xs[i]? = some x → EvT t (σ' x) H1 (f i)) (he : ∀ (i : Nat) (x : V) H1, Ex H H1 → xs[i]? = some x → f i = true → Ev te (σ' x) H1 (v i)) :
    EvL (tLc (iTup K tl) g t te vs) σ H (given xs.length f v) := fun H0 e Q q => h H0 e _ fun H1 e1 => ⟨a, rfl, ⟨xs, ex_t (e.trans e1) hx⟩, fun Dl hD =>
  lc_tup (xs := xs) (Cw H1 f v Dl) ⟨hD, Ex.new hD, upd_same⟩ (fun i H' _ p => ex_t ((e.trans e1).trans p.2.1) hx)
    (fun i x H' hi p => hg i x H' _ ((e.trans e1).trans p.2.1) hi ⟨hw x, cw_turn p (by have := (List.getElem?_eq_some_iff.mp hi).1; omega) (ht i x H1 (e.trans e1) hi) (fun hf => he i x H1 (e.trans e1) hi hf)⟩)
    (fun He cw => q Dl He (fresh_back e1 cw.1) (e1.trans cw.2.1) cw.2.2)⟩
theorem et_yes : EvT tYes σ H true := fun H1 _ _ q => q H1 (Ex.refl H1)
theorem ev_join {s : Str} {ys : List Str} (ha : Ev ta σ H (.str s)) (hb : EvL te σ H (ys.map V.str)) (hz : (ys.map (·.length)).sum + ys.length * s.length ≤ 16777216) :
    Ev (tM1 (fun x xs H Q => ∃ a p, ∃ ys : List Str, x = .str a ∧ xs = [.ref p] ∧ (SqL K H p (ys.map V.str) ∨ SqT K H p (ys.map V.str)) ∧ (ys.map (·.length)).sum + ys.length * a.length ≤ 16777216 ∧ Q (.str (Txt.join a ys)) H) ta te) σ H (.str (Txt.join s ys)) := fun H1 e Q q =>
  ha H1 e _ fun H2 e2 => ⟨⟨s, rfl⟩, hb H2 (e.trans e2) _ fun p H3 _ e3 h3 => ⟨s, p, ys, rfl, rfl, .inl (sq_of h3), hz, q H3 (e2.trans e3)⟩⟩
theorem eu_tuple {xs : List V} (h : EvL te σ H xs) : EvU (tCB (fun xs H Q => ∃ p ys, xs = [.ref p] ∧ ((SqL K H p ys ∧ ∀ l, H l = none → Q (.ref l) (upd H l (.tup ys))) ∨ (SqT K H p ys ∧ Q (.ref p) H))) (tCons te tNil)) σ H xs := fun H1 e Q q =>
  h H1 e _ fun p H2 _ e2 h2 => ⟨p, xs, rfl, .inl ⟨sq_of h2, fun l hl => q l _ (fresh_back e2 hl) (e2.trans (Ex.new hl)) upd_same⟩⟩
theorem ev_sum {ns : List Int} (h : EvL te σ H (ns.map V.int)) : Ev (tCB (rSum K) (tCons te tNil)) σ H (.int ns.sum) := fun H1 e Q q =>
  h H1 e _ fun p H2 _ e2 h2 => ⟨p, ns, rfl, sq_of h2, q H2 e2⟩
theorem el_is {xs ys : List V} (h : EvL te σ H xs) (e : xs = ys) : EvL te σ H ys := e ▸ h
theorem eu_is {xs ys : List V} (h : EvU te σ H xs) (e : xs = ys) : EvU te σ H ys := e ▸ h
theorem rv_inS {c : Nat} {w : Str} : RV (fun x y H Q => ∃ (c : Nat) (z : Str), x = .str ⟨#[c]⟩ ∧ y = .str z ∧ Q (.bl (decide (c ∈ z.cps.toList))) H) (.str ⟨#[c]⟩) (.str w) H (.bl (decide (c ∈ w.cps.toList))) := fun H1 _ _ q => ⟨c, w, rfl, rfl, q H1 (Ex.refl H1)⟩
end
/-- the letters of l that stand in v -/
def chosen (v l : Str) : List Str := (l.cps.toList.filter fun c => decide (c ∈ v.cps.toList)).map fun c => ⟨#[c]⟩
theorem given_signs (l : Str) (p : Nat → Bool) : given l.cps.size (fun i => p (l.cps.toList.getD i 0)) (fun i => V.str ⟨#[l.cps.toList.getD i 0]⟩) = (((l.cps.toList.filter p).map fun c => (⟨#[c]⟩ : Str)).map V.str) := by
  unfold given
  have h : ∀ (xs : List Nat), ((List.range xs.length).filter fun i => p (xs.getD i 0)).map (fun i => V.str ⟨#[xs.getD i 0]⟩) = ((xs.filter p).map fun c => (⟨#[c]⟩ : Str)).map V.str := by
    intro xs
    have e : xs = (List.range xs.length).map fun i => xs.getD i 0 := by
      apply List.ext_getElem
      · simp
      · intro i h1 h2
        simp at h2 ⊢
        simp [h1]
    conv => rhs; rw [e]
    rw [List.filter_map, List.map_map, List.map_map]
    rfl
  have := h l.cps.toList
  rw [Array.length_toList] at this
  exact this
theorem ones_sum : ∀ xs : List Nat, ((xs.map fun c => (⟨#[c]⟩ : Str)).map (·.length)).sum = xs.length
  | [] => rfl
  | x :: xs => by
    have := ones_sum xs
    simp only [List.map_cons, List.sum_cons, List.length_cons, this]
    show 1 + xs.length = xs.length + 1
    omega
theorem chosen_small {v l : Str} (h : l.cps.size ≤ 20) : ((chosen v l).map (·.length)).sum + (chosen v l).length * (Str.length "") ≤ 16777216 := by
  have e : Str.length "" = 0 := by decide +kernel
  have h1 : (l.cps.toList.filter fun c => decide (c ∈ v.cps.toList)).length ≤ l.cps.toList.length := List.length_filter_le ..
  have e2 : l.cps.toList.length = l.cps.size := by simp
  rw [e, Nat.mul_zero]
  unfold chosen
  rw [ones_sum]
  omega
def spChoice : Sp := fun vs H Q _ => ∃ v l : Str, vs = [.str v, .str l] ∧ l.cps.size ≤ 20 ∧ ∀ H', Ex H H' → Q (.bl (decide (V.str v = V.str (Txt.join "" (chosen v l))))) H'
section
variable {P : Program} {w : World} {K : PySem.W.Frag} {mg : Str → Option Value} {base : Heap} {a : Ads}
theorem ok_is_choice (T : Txt w K mg a) : FnOk P w K mg base CX0 1 a.f_is_choice a.d_is_choice ["value", "letters"] spChoice := by
  refine T.fn_is_choice.ok sc_is_choice (fun vs H Q E h => ?_) (fun cdv A outer s H vs Q E hr h => ?_)
  · obtain ⟨_, _, rfl, _⟩ := h
    rfl
  · obtain ⟨v, l, rfl, hl, k⟩ := h
    refine ⟨_, (pss_cons (ps_if (pt_not (pt_val (pe_callB call_isi (by rfl) T.b_isinstance PyProof.Rows.boot_isinstance (pa_cons (pv 0) (pa_cons (pe_bltn (v := .ty "str") (by rfl) T.b_str (by decide +kernel) rfl) pa_nil))))) (pss_one (ps_ret pe_bl)) pss_nil)
    (pss_one (ps_ret (pe_cmpR op_eq (pv 0) (pe_join pe_str (pe_lc (own := [("letter", 2)]) (g := gName 2) rfl sc_is_choice.nd (pi_str (pv 1)) (blkOk_by (own := [("letter", 2)]) (N := n_is_choice) (sc := defScope s_is_choice) (by decide +kernel)) (fun _ _ _ _ _ => (pg_name (i := 2) sc_is_choice.nd rfl (Or.inl rfl))) (fun _ _ _ _ _ => (pts_one (pt_cmpR op_in_sign (pv 2) (pv 0) (by rfl)))) (fun _ _ _ _ _ => (pv 2)))) (nomark _))))), ?_⟩
    refine q_when (b := false) (et_not (a := true) (et_B (ev_isi (by walk_at "ev") (.ty _) (fun _ _ => .base (.str v)) (kit_ty (by decide +kernel))))) (fun z => nomatch z) fun _ H1 e1 => ?_
    have hL := el_lcS (σ := L2.start n_is_choice [.str v, .str l]) (H := H1) (s := l) (tl' := tVar 1) (j := 2) (vs := [2]) (t := tTest (tOp (fun x y H Q => ∃ (c : Nat) (z : Str), x = .str ⟨#[c]⟩ ∧ y = .str z ∧ Q (.bl (decide (c ∈ z.cps.toList))) H) (tVar 2) (tVar 0))) (te := tVar 2) (fun i => decide (l.cps.toList.getD i 0 ∈ v.cps.toList)) (fun i => V.str ⟨#[l.cps.toList.getD i 0]⟩) (ev_var rfl) (by omega) (fun _ => rfl)
      (fun i c H2 e2 hc => et_test (ev_is (ev_op (ev_var rfl) (ev_var rfl) rv_inS) (by rw [← Array.getElem?_toList] at hc; simp [List.getD, hc])))
      (fun i c H2 e2 hc _ => ev_is (ev_var rfl) (by rw [← Array.getElem?_toList] at hc; simp [List.getD, hc]))
    rw [given_signs l fun c => decide (c ∈ v.cps.toList)] at hL
    refine s_ret (v := .bl (decide (V.str v = V.str (Txt.join "" (chosen v l))))) (ev_op (ev_var rfl) (ev_join (s := "") ev_c hL ?_) (rv_eq rfl)) fun H2 e2 => k H2 (e1.trans e2)
    exact chosen_small hl
end
end KY
set_option Elab.async false
set_option linter.all false
set_option maxRecDepth 100000
set_option maxHeartbeats 4000000
namespace KY
open PySem PySem.Spec PyProof.Rows L2 Evl
local macro_rules | `(tactic| walk_at "ev") => `(tactic| repeat' (first | exact ev_c | exact ev_var rfl | exact rv_I0 | refine' rv_I ?_ | refine' rv_eq ?_ | refine' rv_ne ?_ | refine' ev_op ?_ ?_ ?_ | exact ea_nil | refine' ea_cons ?_ ?_ | refine' et_test ?_ | refine' et_B ?_ | refine' et_not ?_ | refine' ev_notV ?_))

abbrev sg (c : Nat) : Str := ⟨#[c]⟩
def allw : List Str := "u" :: "g" :: "o" :: whats
def forms : List Str := ["file", "folder"]
def meantB (what : Str) (c p : Nat) (form : Str) : Bool :=
  if what = "u" then !decide (V.int (Builtin.bitAnd p 4) = V.int 0) else if what = "g" then !decide (V.int (Builtin.bitAnd p 2) = V.int 0) else if what = "o" then !decide (V.int (Builtin.bitAnd p 1) = V.int 0) else
  if c ∈ what.cps.toList then true else (decide (V.str (sg c) = V.str "x") && (decide (88 ∈ what.cps.toList) && (decide (V.str form = V.str "folder") || !decide (V.int p = V.int 0))))
def spMeant : Sp := fun vs H Q _ => ∃ (what form : Str) (c p : Nat), vs = [.str what, .str (sg c), .int p, .str form] ∧ what ∈ allw ∧ ∀ H', Ex H H' → Q (.bl (meantB what c p form)) H'
theorem rv_kd {K : PySem.W.Frag} {d : Addr} {z : Str} {r : Option Value} {H : Hp} (h : PySem.W.nsIn K d z = some r) : RV (fun x y H Q => ∃ (z : Str) (r : Option Value), x = .str z ∧ y = .ref d ∧ PySem.W.nsIn K d z = some r ∧ Q (.bl r.isSome) H) (.str z) (.ref d) H (.bl r.isSome) := fun H1 _ _ q => ⟨z, r, rfl, rfl, h, q H1 (Ex.refl H1)⟩
theorem rv_kix {K : PySem.W.Frag} {w : World} {d : Addr} {es : Array DictEntry} {n : Nat} {z : Str} {u : Value} {v : V} {H : Hp} (D : KDict K w d es n) (h : PySem.W.nsIn K d z = some (some u)) (r : RelV v u) : RV (rIxD K w) (.ref d) (.str z) H v := fun H1 _ _ q => ⟨d, z, v, rfl, rfl, ⟨es, n, u, D.at_, D.lit, h, r⟩, q H1 (Ex.refl H1)⟩
theorem not_u : ("u" : Str) ∉ whats ∧ ("g" : Str) ∉ whats ∧ ("o" : Str) ∉ whats ∧ ("g" : Str) ≠ "u" ∧ ("o" : Str) ≠ "u" ∧ ("o" : Str) ≠ "g" := by decide +kernel
theorem X_is : ("X" : Str) = ⟨#[88]⟩ := by decide +kernel
section
variable {P : Program} {w : World} {K : PySem.W.Frag} {mg : Str → Option Value} {base : Heap} {a : Ads}
theorem ok_is_meant (T : Txt w K mg a) : FnOk P w K mg base CX0 1 a.f_is_meant a.d_is_meant ["what", "letter", "pattern", "form"] spMeant := by
  obtain ⟨es, n, D, ⟨t4, hu⟩, ⟨t2, hg⟩, ⟨t1, ho⟩, hno⟩ := T.d_CLASSES
  refine T.fn_is_meant.ok sc_is_meant (fun vs H Q E h => ?_) (fun cdv A outer s H vs Q E hr h => ?_)
  · obtain ⟨_, _, _, _, rfl, _⟩ := h
    rfl
  · obtain ⟨what, form, c, p, rfl, hw, k⟩ := h
    refine ⟨_, (pss_cons (ps_if (pt_cmpR (op_in_kd D) (pv 0) (pe_glob (v := .ref a.k_CLASSES) rfl T.mg_CLASSES rfl) (by rfl)) (pss_one (ps_ret (pe_cmpR op_ne (pe_op op_and (pv 2) (pe_ix ix_kdict (pe_glob (v := .ref a.k_CLASSES) rfl T.mg_CLASSES rfl) (pv 0) (fun _ _ => rfl))) pe_int (nomark _)))) pss_nil)
    (pss_cons (ps_if (pt_cmpR op_in_sign (pv 1) (pv 0) (by rfl)) (pss_one (ps_ret pe_bl)) pss_nil)
    (pss_one (ps_ret (pe_and (pe_cmpR op_eq (pv 1) pe_str (nomark _)) (pe_and (pe_cmpR op_in_sign pe_str (pv 0) (by rfl)) (pe_one (pe_or (pe_cmpR op_eq (pv 3) pe_str (nomark _)) (pe_one (pe_cmpR op_ne (pv 2) pe_int (nomark _))))))))))), ?_⟩
    have cl3 : (∃ (b : Nat) (t : Tok), PySem.W.nsIn K a.k_CLASSES what = some (some (.int b t)) ∧ meantB what c p form = !decide (V.int (Builtin.bitAnd p b) = V.int 0)) ∨ what ∈ whats := by
      rcases List.mem_cons.mp hw with rfl | hw
      · exact .inl ⟨4, t4, hu, by unfold meantB; rw [if_pos rfl]; rfl⟩
      rcases List.mem_cons.mp hw with rfl | hw
      · exact .inl ⟨2, t2, hg, by unfold meantB; rw [if_neg not_u.2.2.2.1, if_pos rfl]; rfl⟩
      rcases List.mem_cons.mp hw with rfl | hw
      · exact .inl ⟨1, t1, ho, by unfold meantB; rw [if_neg not_u.2.2.2.2.1, if_neg not_u.2.2.2.2.2, if_pos rfl]; rfl⟩
      exact .inr hw
    rcases cl3 with ⟨b, t, hn, e⟩ | hw
    · refine q_when (b := true) (et_test (ev_op (ev_var rfl) ev_c (rv_kd hn))) (fun _ H1 e1 => ?_) (fun z => nomatch z)
      exact s_ret (v := .bl (meantB what c p form)) (ev_is (ev_op (ev_op (ev_var rfl) (ev_op ev_c (ev_var rfl) (rv_kix (v := .int b) D hn ⟨_, rfl⟩)) rv_I0) ev_c (rv_ne rfl)) (by rw [e])) fun H2 e2 => k H2 (e1.trans e2)
    have e0 : meantB what c p form = if c ∈ what.cps.toList then true else (decide (V.str (sg c) = V.str "x") && (decide (88 ∈ what.cps.toList) && (decide (V.str form = V.str "folder") || !decide (V.int p = V.int 0)))) := by
      unfold meantB
      rw [if_neg (fun z => not_u.1 (by rw [← z]; exact hw)), if_neg (fun z => not_u.2.1 (by rw [← z]; exact hw)), if_neg (fun z => not_u.2.2.1 (by rw [← z]; exact hw))]
    refine q_when (b := false) (et_test (ev_op (ev_var rfl) ev_c (rv_kd (hno what hw)))) (fun z => nomatch z) fun _ H1 e1 => ?_
    refine q_when (b := decide (c ∈ what.cps.toList)) (et_test (ev_op (ev_var rfl) (ev_var rfl) rv_inS)) (fun hb H2 e2 => ?_) fun hb H2 e2 => ?_
    · rw [if_pos (of_decide_eq_true hb)] at e0
      exact s_ret (v := .bl (meantB what c p form)) (ev_is ev_c (by rw [e0])) fun H3 e3 => k H3 ((e1.trans e2).trans e3)
    · rw [if_neg (of_decide_eq_false hb)] at e0
      refine s_ret (v := .bl (meantB what c p form)) (ev_is (ev_andV (ev_op (ev_var rfl) ev_c (rv_eq rfl)) fun _ => ev_andV (ev_op (ev_is ev_c (congrArg V.str X_is)) (ev_var rfl) rv_inS) fun _ => ev_orV (ev_op (ev_var rfl) ev_c (rv_eq rfl)) fun _ => ev_op (ev_var rfl) ev_c (rv_ne rfl)) (by rw [e0])) fun H3 e3 => k H3 ((e1.trans e2).trans e3)
end
end KY
set_option Elab.async false
set_option linter.all false
set_option maxRecDepth 100000
set_option maxHeartbeats 4000000
namespace KY
open PySem PySem.Spec PyProof.Rows L2 Evl
local macro_rules | `(tactic| walk_at "ev") => `(tactic| repeat' (first | exact ev_c | exact ev_var rfl | exact rv_I0 | refine' rv_I ?_ | refine' rv_eq ?_ | refine' rv_ne ?_ | refine' ev_op ?_ ?_ ?_ | exact ea_nil | refine' ea_cons ?_ ?_ | refine' et_test ?_ | refine' et_B ?_ | refine' et_not ?_ | refine' ev_notV ?_))

def pbI (mask : Int) (sign : Str) (meant : Bool) (p : Int) : Int := if meant then (if decide (V.str sign = V.str "-") then Builtin.bitAnd p (7 - mask) else Builtin.bitOr p mask) else (if decide (V.str sign = V.str "=") then Builtin.bitAnd p (7 - mask) else p)
def spBehind : Sp := fun vs H Q _ => ∃ (mask p : Int) (sign : Str) (meant : Bool), vs = [.int mask, .str sign, .bl meant, .int p] ∧ ∀ H', Ex H H' → Q (.int (pbI mask sign meant p)) H'
/-- the bit of a class, by its sign's code -/
def clsV (c : Nat) : Nat := if c = 117 then 4 else if c = 103 then 2 else 1
def maskN (who : Str) : Nat := (who.cps.toList.map clsV).sum
def whoOk (who : Str) : Prop := (∀ c ∈ who.cps.toList, c = 117 ∨ c = 103 ∨ c = 111) ∧ maskN who ≤ 7 ∧ who.cps.size ≤ 3
def partF (who sign what : Str) (c : Nat) (form : Str) (p : Nat) : Nat := (pbI (maskN who : Nat) sign (meantB what c p form) p).toNat
def rowV (f : Nat → Nat) : List V := (List.range 8).map fun i => V.int (f i : Nat)
def spPart : Sp := fun vs H Q _ => ∃ (who sign what form : Str) (c : Nat), vs = [.str who, .str sign, .str what, .str (sg c), .str form] ∧ whoOk who ∧ what ∈ allw ∧ ∀ p H', H p = none → Ex H H' → H' p = some (.tup (rowV (partF who sign what c form))) → Q (.ref p) H'
theorem pb_small : ∀ mask, mask < 8 → ∀ p : Nat, p < 8 → 0 ≤ Builtin.bitAnd (p : Int) (7 - (mask : Nat)) ∧ Builtin.bitAnd (p : Int) (7 - (mask : Nat)) < 8 ∧ 0 ≤ Builtin.bitOr (p : Int) (mask : Nat) ∧ Builtin.bitOr (p : Int) (mask : Nat) < 8 := by
  have h : ((List.range 8).all fun (m : Nat) => (List.range 8).all fun (p : Nat) => decide (0 ≤ Builtin.bitAnd (p : Int) (7 - (m : Nat)) ∧ Builtin.bitAnd (p : Int) (7 - (m : Nat)) < 8 ∧ 0 ≤ Builtin.bitOr (p : Int) (m : Nat) ∧ Builtin.bitOr (p : Int) (m : Nat) < 8)) = true := by decide +kernel
  exact fun m hm p hp => of_decide_eq_true (all_nat (all_nat h m hm) p hp)
theorem pb_bounds {mask p : Nat} {sign : Str} {meant : Bool} (hm : mask < 8) (hp : p < 8) : 0 ≤ pbI mask sign meant p ∧ pbI mask sign meant p < 8 := by
  obtain ⟨h1, h2, h3, h4⟩ := pb_small mask hm p hp
  unfold pbI
  split <;> split <;> first | exact ⟨h1, h2⟩ | exact ⟨h3, h4⟩ | exact ⟨by omega, by omega⟩
theorem partF_eq {who sign what form : Str} {c p : Nat} (hw : whoOk who) (hp : p < 8) : pbI (maskN who : Nat) sign (meantB what c p form) p = (partF who sign what c form p : Nat) ∧ partF who sign what c form p < 8 := by
  obtain ⟨h1, h2⟩ := pb_bounds (mask := maskN who) (p := p) (sign := sign) (meant := meantB what c p form) (by have := hw.2.1; omega) hp
  unfold partF
  omega
/-- a call that gives a new tuple -/
def SpU (sp : Sp) (vs : List V) (H : Hp) (xs : List V) : Prop := ∀ H1, Ex H H1 → ∀ Q : VK, (∀ p H2, H1 p = none → Ex H1 H2 → H2 p = some (.tup xs) → Q (.ref p) H2) → ∀ E : XK, sp vs H1 Q E
theorem eu_call {σ : L2.St} {H : Hp} {sp : Sp} {dvs vs xs : List V} {E : XK} {ta : TA} (h : EvA ta σ H vs) (hs : SpU sp (vs ++ dvs) H xs) : EvU (tCall sp dvs E ta) σ H xs := fun H1 e Q q =>
  h H1 e _ fun Ha ea => hs Ha (e.trans ea) Q (fun p Hb new eb at_ => q p Hb (fresh_back ea new) (ea.trans eb) at_) E
theorem u_is : ("u" : Str) = ⟨#[117]⟩ ∧ ("g" : Str) = ⟨#[103]⟩ ∧ ("o" : Str) = ⟨#[111]⟩ := by decide +kernel
theorem given_all {n : Nat} {v : Nat → V} : given n (fun _ => true) v = (List.range n).map v := by
  unfold given
  rw [List.filter_eq_self.mpr fun _ _ => rfl]
section
variable {P : Program} {w : World} {K : PySem.W.Frag} {mg : Str → Option Value} {base : Heap} {a : Ads}
theorem ok_pattern_behind (T : Txt w K mg a) : FnOk P w K mg base CX0 1 a.f_pattern_behind a.d_pattern_behind ["mask", "sign", "meant", "pattern"] spBehind := by
  refine T.fn_pattern_behind.ok sc_pattern_behind (fun vs H Q E h => ?_) (fun cdv A outer s H vs Q E hr h => ?_)
  · obtain ⟨_, _, _, _, rfl, _⟩ := h
    rfl
  · obtain ⟨mask, p, sign, meant, rfl, k⟩ := h
    refine ⟨_, (pss_cons (ps_if (pt_val (pv 2)) (pss_one (ps_ret (pe_ifExp (pt_cmpR op_eq (pv 1) pe_str (nomark _)) (pe_op op_and (pv 3) (pe_op op_sub pe_int (pv 0))) (pe_op op_or (pv 3) (pv 0))))) pss_nil)
    (pss_one (ps_ret (pe_ifExp (pt_cmpR op_eq (pv 1) pe_str (nomark _)) (pe_op op_and (pv 3) (pe_op op_sub pe_int (pv 0))) (pv 3))))), ?_⟩
    refine q_when (b := meant) (et_B (ev_var rfl)) (fun hb H1 e1 => ?_) (fun hb H1 e1 => ?_)
    · refine s_ret (v := .int (pbI mask sign meant p)) (ev_if (b := decide (V.str sign = V.str "-")) (et_test (ev_op (ev_var rfl) ev_c (rv_eq rfl))) (fun hc => ev_is (by walk_at "ev") ?_) (fun hc => ev_is (by walk_at "ev") ?_)) fun H2 e2 => k H2 (e1.trans e2)
      · unfold pbI; rw [hb, hc] <;> rfl
      · unfold pbI; rw [hb, hc] <;> rfl
    · refine s_ret (v := .int (pbI mask sign meant p)) (ev_if (b := decide (V.str sign = V.str "=")) (et_test (ev_op (ev_var rfl) ev_c (rv_eq rfl))) (fun hc => ev_is (by walk_at "ev") ?_) (fun hc => ev_is (by walk_at "ev") ?_)) fun H2 e2 => k H2 (e1.trans e2)
      · unfold pbI; rw [hb, hc] <;> rfl
      · unfold pbI; rw [hb, hc] <;> rfl
theorem ok_part_of (T : Txt w K mg a) : FnOk P w K mg base CX0 3 a.f_part_of a.d_part_of ["who", "sign", "what", "letter", "form"] spPart := by
  have G_pattern_behind : FnOk P w K mg base CX0 1 _ _ _ _ := ok_pattern_behind T
  have G_is_meant : FnOk P w K mg base CX0 1 _ _ _ _ := ok_is_meant T
  obtain ⟨es, n, D, ⟨t4, hu⟩, ⟨t2, hg⟩, ⟨t1, ho⟩, hno⟩ := T.d_CLASSES
  refine T.fn_part_of.ok sc_part_of (fun vs H Q E h => ?_) (fun cdv A outer s H vs Q E hr h => ?_)
  · obtain ⟨_, _, _, _, _, rfl, _⟩ := h
    rfl
  · obtain ⟨who, sign, what, form, c, rfl, hw, hwh, k⟩ := h
    have hrc : Room 1 _ := hr.mono (by decide)
    refine ⟨_, (pss_cons (ps_set (i := 5) sc_part_of.nd rfl (Or.inr rfl) (pe_callB (cr_sum rfl) (by rfl) T.b_sum (by decide +kernel) (pa_cons (pe_lc (own := [("told", 6)]) (g := gName 6) rfl sc_part_of.nd (pi_str (pv 0)) (blkOk_by (own := [("told", 6)]) (N := n_part_of) (sc := defScope s_part_of) (by decide +kernel)) (fun _ _ _ _ _ => (pg_name (i := 6) sc_part_of.nd rfl (Or.inl rfl))) (fun _ _ _ _ _ => pts_nil) (fun _ _ _ _ _ => (pe_ix (r := rIxD K w) ix_kdict (pe_glob (v := .ref a.k_CLASSES) rfl T.mg_CLASSES rfl) (pv 6) (fun _ _ => rfl)))) pa_nil)))
    (pss_one (ps_ret (pe_callTy call_tuple_of (by rfl) T.b_tuple (by decide +kernel) (pa_cons (pe_lc (own := [("pattern", 7)]) (g := gName 7) rfl sc_part_of.nd (pi_tup (pe_glob (v := .ref a.k_PATTERNS) rfl T.mg_PATTERNS rfl)) (blkOk_by (own := [("pattern", 7)]) (N := n_part_of) (sc := defScope s_part_of) (by decide +kernel)) (fun _ _ _ _ _ => (pg_name (i := 7) sc_part_of.nd rfl (Or.inl rfl))) (fun _ _ _ _ _ => pts_nil) (fun _ _ _ _ _ => (pe_call G_pattern_behind hrc rfl T.mg_pattern_behind T.fn_pattern_behind.kp (bd_pattern_behind T) .nil pass0 (pa_cons (pv 5) (pa_cons (pv 1) (pa_cons (pe_call G_is_meant hrc rfl T.mg_is_meant T.fn_is_meant.kp (bd_is_meant T) .nil pass0 (pa_cons (pv 2) (pa_cons (pv 3) (pa_cons (pv 7) (pa_cons (pv 4) pa_nil))))) (pa_cons (pv 7) pa_nil))))))) pa_nil))))), ?_⟩
    have hc : ∀ (i d : Nat), who.cps[i]? = some d → ∃ t : Tok, PySem.W.nsIn K a.k_CLASSES (⟨#[d]⟩ : Str) = some (some (.int (clsV d : Nat) t)) := fun i d hd => by
      have hm : d ∈ who.cps.toList := by rw [← Array.getElem?_toList] at hd; exact List.mem_of_getElem? hd
      rcases hw.1 d hm with rfl | rfl | rfl
      · exact ⟨t4, by rw [← u_is.1]; exact hu⟩
      · exact ⟨t2, by rw [← u_is.2.1]; exact hg⟩
      · exact ⟨t1, by rw [← u_is.2.2]; exact ho⟩
    refine q_asg (v := .int (maskN who : Nat)) (ev_is (ev_sum (ns := who.cps.toList.map fun d => ((clsV d : Nat) : Int)) (el_is (el_lcS (s := who) (fun _ => true) (fun i => V.int (clsV (who.cps.toList.getD i 0) : Nat)) (ev_var rfl) (by have := hw.2.2; omega) (fun _ => rfl) (fun _ _ _ _ _ => et_yes)
      (fun i d H2 e2 hd _ => ?_)) ?_)) ?_) fun H1 e1 => ?_
    · obtain ⟨t, ht⟩ := hc i d hd
      refine ev_is (ev_op ev_c (ev_var rfl) (rv_kix (v := .int (clsV d : Nat)) D ht ⟨_, rfl⟩)) ?_
      rw [← Array.getElem?_toList] at hd
      simp [List.getD, hd]
    · rw [given_all]
      apply List.ext_getElem
      · simp
      · intro i h1 h2
        simp at h1 h2 ⊢
        simp [h1]
    · congr 1
      unfold maskN
      have : ∀ xs : List Nat, (xs.map fun d => ((clsV d : Nat) : Int)).sum = ((xs.map clsV).sum : Nat) := by
        intro xs
        induction xs with
        | nil => rfl
        | cons x xs ih => simp only [List.map_cons, List.sum_cons, ih]; omega
      exact this _
    refine s_retU (xs := rowV (partF who sign what c form)) (eu_tuple (el_is (el_lcT (xs := [0, 1, 2, 3, 4, 5, 6, 7].map V.int) (σ' := fun x => [some (.str who), some (.str sign), some (.str what), some (.str (sg c)), some (.str form), some (.int (maskN who : Nat)), none, some x]) (fun _ => true) (fun i => V.int (partF who sign what c form i : Nat)) ev_c (T.t_PATTERNS _) (by decide)
      (fun i x H2 Q' e2 hi q => q) (fun _ => rfl) (fun _ _ _ _ _ => et_yes) (fun i x H2 e2 hi _ => ?_)) (by rw [given_all]; rfl))) fun p H2 hp e2 h2 => k p H2 (fresh_back e1 hp) (e1.trans e2) h2
    obtain ⟨hi8, rfl⟩ : i < 8 ∧ x = .int (i : Nat) := by
      have h8 := (List.getElem?_eq_some_iff.mp hi).1
      have h8' : i < 8 := h8
      refine ⟨h8', ?_⟩
      have : ∀ j, j < 8 → ([0, 1, 2, 3, 4, 5, 6, 7].map V.int)[j]? = some (.int (j : Nat)) := by
        intro j hj
        match j, hj with
        | 0, _ => rfl | 1, _ => rfl | 2, _ => rfl | 3, _ => rfl | 4, _ => rfl | 5, _ => rfl | 6, _ => rfl | 7, _ => rfl
      rw [this i h8'] at hi
      exact (Option.some.inj hi).symm
    refine ev_is (ev_call (vs := [.int (maskN who : Nat), .str sign, .bl (meantB what c i form), .int (i : Nat)]) (ea_cons (ev_var rfl) (ea_cons (ev_var rfl) (ea_cons (ev_call (vs := [.str what, .str (sg c), .int (i : Nat), .str form]) (by walk_at "ev") fun H3 e3 Q3 q3 E3 => ⟨what, form, c, i, rfl, hwh, q3⟩) (ea_cons (ev_var rfl) ea_nil)))) fun H3 e3 Q3 q3 E3 => ⟨_, _, _, _, rfl, q3⟩) ?_
    rw [(partF_eq (sign := sign) (what := what) (form := form) (c := c) hw hi8).1]
end
end KY
set_option Elab.async false
set_option linter.all false
set_option maxRecDepth 100000
set_option maxHeartbeats 4000000
namespace KY
open PySem PySem.Spec PyProof.Rows L2 Evl
local macro_rules | `(tactic| walk_at "ev") => `(tactic| repeat' (first | exact ev_c | exact ev_var rfl | exact rv_I0 | refine' rv_I ?_ | refine' rv_eq ?_ | refine' rv_ne ?_ | refine' ev_op ?_ ?_ ?_ | exact ea_nil | refine' ea_cons ?_ ?_ | refine' et_test ?_ | refine' et_B ?_ | refine' et_not ?_ | refine' ev_notV ?_))

section
variable {K : PySem.W.Frag} {σ : L2.St} {H H' : Hp} {ta tb te tx tv : TE} {t u : TT} {x y z v : V} {r : R2} {D : Ends} {tz : TS}
theorem q_asgT {xs : List V} {n : Nat} {tgs : TGs} (h : EvU te σ H xs) (hl : xs.length = n) (k : ∀ p H1, H p = none → Ex H H1 → H1 p = some (.tup xs) → tgs xs σ H1 (tz D)) : tSeq (tAsg te (gTup K n tgs)) tz D σ H :=
  h H (Ex.refl _) _ fun p H1 hp e h1 => ⟨p, xs, rfl, st_of h1, hl, k p H1 hp e h1⟩
theorem rv_rowT {p : Addr} {f : Nat → Nat} {i : Nat} (h : SqT K H p (rowV f)) (hi : i < 8) : RV (rIxT K) (.ref p) (.int (i : Nat)) H (.int (f i : Nat)) := rv_ixT h (atI_nat (by unfold rowV; simp [hi]))
end
def spParts (K : PySem.W.Frag) : Sp := fun vs H Q _ => ∃ (t t0 t1 t2 t3 : Addr) (form : Str), vs = [.ref t, .str form] ∧ SqT K H t [.ref t0, .ref t1, .ref t2, .ref t3] ∧ ∀ p H', H p = none → Ex H H' → H' p = some (.tup [.ref t0, .ref t1, .ref (if decide (V.str form = V.str "file") then t2 else t3)]) → Q (.ref p) H'
/-- the number that a table makes -/
def numI (f0 f1 f2 f3 : Nat → Nat) (n : Nat) (form : Str) : Int := Builtin.bitOr (Builtin.bitOr (bitsN (f0 (patN n 4)) 4 : Nat) (bitsN (f1 (patN n 2)) 2 : Nat)) (bitsN ((if decide (V.str form = V.str "file") then f2 else f3) (patN n 1)) 1 : Nat)
def Tab (K : PySem.W.Frag) (H : Hp) (t : Addr) (f0 f1 f2 f3 : Nat → Nat) : Prop := ∃ t0 t1 t2 t3 : Addr, SqT K H t [.ref t0, .ref t1, .ref t2, .ref t3] ∧ SqT K H t0 (rowV f0) ∧ SqT K H t1 (rowV f1) ∧ SqT K H t2 (rowV f2) ∧ SqT K H t3 (rowV f3)
theorem Tab.mono {K : PySem.W.Frag} {H H' : Hp} {t : Addr} {f0 f1 f2 f3 : Nat → Nat} (h : Tab K H t f0 f1 f2 f3) (e : Ex H H') : Tab K H' t f0 f1 f2 f3 := by
  obtain ⟨t0, t1, t2, t3, h, h0, h1, h2, h3⟩ := h
  exact ⟨t0, t1, t2, t3, ex_t e h, ex_t e h0, ex_t e h1, ex_t e h2, ex_t e h3⟩
def Low (f : Nat → Nat) : Prop := ∀ i, i < 8 → f i < 8
def spNB (K : PySem.W.Frag) : Sp := fun vs H Q _ => ∃ (t : Addr) (f0 f1 f2 f3 : Nat → Nat) (n : Nat) (form : Str), vs = [.ref t, .int n, .str form] ∧ n < 512 ∧ Tab K H t f0 f1 f2 f3 ∧ Low f0 ∧ Low f1 ∧ Low f2 ∧ Low f3 ∧ ∀ H', Ex H H' → Q (.int (numI f0 f1 f2 f3 n form)) H'
theorem pat_lt : ∀ w : Nat, (w = 1 ∨ w = 2 ∨ w = 4) → ∀ n : Nat, n < 512 → patN n w < 8 := by
  intro w hw n hn
  unfold patN
  have h1 := Nat.mod_lt (n / w / 64) (show 0 < 2 by decide)
  have h2 := Nat.mod_lt (n / w / 8) (show 0 < 2 by decide)
  have h3 := Nat.mod_lt (n / w) (show 0 < 2 by decide)
  omega
section
variable {P : Program} {w : World} {K : PySem.W.Frag} {mg : Str → Option Value} {base : Heap} {a : Ads}
theorem ok_parts_for (T : Txt w K mg a) : FnOk P w K mg base CX0 1 a.f_parts_for a.d_parts_for ["tables", "form"] (spParts K) := by
  refine T.fn_parts_for.ok sc_parts_for (fun vs H Q E h => ?_) (fun cdv A outer s H vs Q E hr h => ?_)
  · obtain ⟨_, _, _, _, _, _, rfl, _⟩ := h
    rfl
  · obtain ⟨t, t0, t1, t2, t3, form, rfl, ht, k⟩ := h
    refine ⟨_, (pss_one (ps_ret (pe_tup (pa_cons (pe_ix ix_tup (pv 0) pe_int (fun _ _ => rfl)) (pa_cons (pe_ix ix_tup (pv 0) pe_int (fun _ _ => rfl)) (pa_cons (pe_ix ix_tup (pv 0) (pe_ifExp (pt_cmpR op_eq (pv 1) pe_str (nomark _)) pe_int pe_int) (fun _ _ => rfl)) pa_nil)))))), ?_⟩
    refine s_retU (xs := [.ref t0, .ref t1, .ref (if decide (V.str form = V.str "file") then t2 else t3)]) (eu_tup (ea_cons (ev_op (ev_var rfl) ev_c (rv_ixT ht rfl)) (ea_cons (ev_op (ev_var rfl) ev_c (rv_ixT ht rfl)) (ea_cons (ev_op (ev_var rfl) (ev_if (b := decide (V.str form = V.str "file")) (v := .int (if decide (V.str form = V.str "file") then 2 else 3)) (et_test (ev_op (ev_var rfl) ev_c (rv_eq rfl))) (fun hb => ev_is ev_c (by rw [hb] <;> rfl)) (fun hb => ev_is ev_c (by rw [hb] <;> rfl))) (rv_ixT ht (by cases decide (V.str form = V.str "file") <;> rfl))) ea_nil))) (by show 3 ≤ 100000; decide)) fun p H1 hp e1 h1 => k p H1 hp e1 h1
theorem ok_number_behind (T : Txt w K mg a) : FnOk P w K mg base CX0 3 a.f_number_behind a.d_number_behind ["tables", "number", "form"] (spNB K) := by
  have G_parts_for : FnOk P w K mg base CX0 1 _ _ _ _ := ok_parts_for T
  have G_bits_of : FnOk P w K mg base CX0 1 _ _ _ _ := ok_bits_of T.fn_bits_of
  have G_pattern_in : FnOk P w K mg base CX0 1 _ _ _ _ := ok_pattern_in T.fn_pattern_in
  refine T.fn_number_behind.ok sc_number_behind (fun vs H Q E h => ?_) (fun cdv A outer s H vs Q E hr h => ?_)
  · obtain ⟨_, _, _, _, _, _, _, rfl, _⟩ := h
    rfl
  · obtain ⟨t, f0, f1, f2, f3, n, form, rfl, hn, ⟨t0, t1, t2, t3, ht, h0, h1, h2, h3⟩, l0, l1, l2, l3, k⟩ := h
    have hrc : Room 1 _ := hr.mono (by decide)
    refine ⟨_, (pss_cons (ps_asg (pe_call G_parts_for hrc rfl T.mg_parts_for T.fn_parts_for.kp (bd_parts_for T) .nil pass0 (pa_cons (pv 0) (pa_cons (pv 2) pa_nil))) (pg_tup rfl (pgs_cons (pg_name (i := 3) sc_number_behind.nd rfl (Or.inl rfl)) (pgs_cons (pg_name (i := 4) sc_number_behind.nd rfl (Or.inl rfl)) (pgs_cons (pg_name (i := 5) sc_number_behind.nd rfl (Or.inl rfl)) pgs_nil)))))
    (pss_one (ps_ret (pe_op op_or (pe_op op_or (pe_call G_bits_of hrc rfl T.mg_bits_of T.fn_bits_of.kp (bd_bits_of T) .nil pass0 (pa_cons (pe_ix ix_tup (pv 3) (pe_call G_pattern_in hrc rfl T.mg_pattern_in T.fn_pattern_in.kp (bd_pattern_in T) .nil pass0 (pa_cons (pv 1) (pa_cons pe_int pa_nil))) (fun _ _ => rfl)) (pa_cons pe_int pa_nil))) (pe_call G_bits_of hrc rfl T.mg_bits_of T.fn_bits_of.kp (bd_bits_of T) .nil pass0 (pa_cons (pe_ix ix_tup (pv 4) (pe_call G_pattern_in hrc rfl T.mg_pattern_in T.fn_pattern_in.kp (bd_pattern_in T) .nil pass0 (pa_cons (pv 1) (pa_cons pe_int pa_nil))) (fun _ _ => rfl)) (pa_cons pe_int pa_nil)))) (pe_call G_bits_of hrc rfl T.mg_bits_of T.fn_bits_of.kp (bd_bits_of T) .nil pass0 (pa_cons (pe_ix ix_tup (pv 5) (pe_call G_pattern_in hrc rfl T.mg_pattern_in T.fn_pattern_in.kp (bd_pattern_in T) .nil pass0 (pa_cons (pv 1) (pa_cons pe_int pa_nil))) (fun _ _ => rfl)) (pa_cons pe_int pa_nil))))))), ?_⟩
    refine q_asgT (xs := [.ref t0, .ref t1, .ref (if decide (V.str form = V.str "file") then t2 else t3)]) (eu_call (vs := [.ref t, .str form]) (by walk_at "ev") fun H1 e1 Q1 q1 E1 => ⟨t, t0, t1, t2, t3, form, rfl, ex_t e1 ht, q1⟩) rfl fun p H1 hp e1 hx => ?_
    refine ⟨_, _, rfl, _, _, rfl, _, _, rfl, rfl, ?_⟩
    have hq : SqT K H (if decide (V.str form = V.str "file") then t2 else t3) (rowV (if decide (V.str form = V.str "file") then f2 else f3)) := by
      cases decide (V.str form = V.str "file")
      · exact h3
      · exact h2
    have lq : Low (if decide (V.str form = V.str "file") then f2 else f3) := by
      cases decide (V.str form = V.str "file")
      · exact l3
      · exact l2
    have pat : ∀ (wt : Nat) (hw : wt = 1 ∨ wt = 2 ∨ wt = 4) (E : XK) (σ : L2.St) (H2 : Hp), σ[1]? = some (some (.int (n : Nat))) → Ev (tCall spPat [] E (tCons (tVar 1) (tCons (tC (.int (wt : Nat))) tNil))) σ H2 (.int (patN n wt : Nat)) := fun wt hw E σ H2 hs =>
      ev_call (vs := [.int (n : Nat), .int (wt : Nat)]) (ea_cons (ev_var hs) (ea_cons ev_c ea_nil)) fun H3 e3 Q3 q3 E3 => ⟨n, wt, rfl, hn, hw, q3⟩
    have bits : ∀ (p wt : Nat) (hp : p < 8) (hw : wt = 1 ∨ wt = 2 ∨ wt = 4) (E : XK) (te : TE) (σ : L2.St) (H2 : Hp), Ev te σ H2 (.int (p : Nat)) → Ev (tCall spBits [] E (tCons te (tCons (tC (.int (wt : Nat))) tNil))) σ H2 (.int (bitsN p wt : Nat)) := fun p wt hp hw E te σ H2 he =>
      ev_call (vs := [.int (p : Nat), .int (wt : Nat)]) (ea_cons he (ea_cons ev_c ea_nil)) fun H3 e3 Q3 q3 E3 => ⟨p, wt, rfl, hp, hw, q3⟩
    refine s_ret (v := .int (numI f0 f1 f2 f3 n form)) (ev_op (ev_op (bits _ 4 (l0 _ (pat_lt 4 (by decide) n hn)) (by decide) _ _ _ _ (ev_op (ev_var rfl) (pat 4 (by decide) _ _ _ rfl) (rv_rowT (ex_t e1 h0) (pat_lt 4 (by decide) n hn))))
      (bits _ 2 (l1 _ (pat_lt 2 (by decide) n hn)) (by decide) _ _ _ _ (ev_op (ev_var rfl) (pat 2 (by decide) _ _ _ rfl) (rv_rowT (ex_t e1 h1) (pat_lt 2 (by decide) n hn)))) rv_I0)
      (bits _ 1 (lq _ (pat_lt 1 (by decide) n hn)) (by decide) _ _ _ _ (ev_op (ev_var rfl) (pat 1 (by decide) _ _ _ rfl) (rv_rowT (ex_t e1 hq) (pat_lt 1 (by decide) n hn)))) rv_I0) fun H2 e2 => k H2 (e1.trans e2)
end
end KY
set_option Elab.async false
set_option linter.all false
set_option maxRecDepth 100000
set_option maxHeartbeats 4000000
namespace KY
open PySem PySem.Spec PyProof.Rows L2 Evl
local macro_rules | `(tactic| walk_at "ev") => `(tactic| repeat' (first | exact ev_c | exact ev_var rfl | exact rv_I0 | refine' rv_I ?_ | refine' rv_eq ?_ | refine' rv_ne ?_ | refine' ev_op ?_ ?_ ?_ | exact ea_nil | refine' ea_cons ?_ ?_ | refine' et_test ?_ | refine' et_B ?_ | refine' et_not ?_ | refine' ev_notV ?_))

/-- a field, the written part named -/
theorem pe_fldE {X : Cx} {K : PySem.W.Frag} {e : Expr} {ta : TE} {f : Str} {pos : Pos} (he : PE X e ta) (hb : attributeBase e f X.env (eval e X.env) = eval e X.env) (hK : X.K = K := by rfl) : PE X (.Attribute e f pos) (tFld K ta f) := by
  subst hK
  exact pe_fld he hb
section
variable {K : PySem.W.Frag} {σ : L2.St} {H H' : Hp} {ta tb te tx tv : TE} {t u : TT} {x y z v : V} {r : R2} {D : Ends} {tz : TS}
/-- all but p stay -/
def ExB (p : Addr) (H H' : Hp) : Prop := ∀ b o, H b = some o → b ≠ p → H' b = some o
theorem ExB.refl (p : Addr) (H : Hp) : ExB p H H := fun _ _ h _ => h
theorem ExB.trans {p : Addr} {H H1 H2 : Hp} (a : ExB p H H1) (b : ExB p H1 H2) : ExB p H H2 := fun x o h n => b x o (a x o h n) n
theorem ExB.of {p : Addr} {H H' : Hp} (e : Ex H H') : ExB p H H' := fun x o h _ => e x o h
/-- self.f = e -/
theorem q_fld {p C dx : Addr} {fs : List (Str × V)} {f : Str} (hv : Ev tv σ H y) (ha : Ev ta σ H (.ref p)) (hp : H p = some (.ins C dx fs)) (c : Cls K C) (n : NoAttr K C f) (hl : fs.length < 1000)
    (k : ∀ H1, ExB p H H1 → H1 p = some (.ins C dx (putF f y fs)) → tz D σ H1) : tSeq (sFld K ta tv f) tz D σ H :=
  hv H (Ex.refl _) _ fun H1 e1 => ha H1 e1 _ fun H2 e2 => ⟨p, C, dx, fs, rfl, e2 _ _ (e1 _ _ hp), c, n, hl, k _ (fun b o hb ne => by rw [upd_ne ne]; exact e2 _ _ (e1 _ _ hb)) upd_same⟩
/-- a new list whose items are new tuples -/
def EvLL (te : TE) (σ : L2.St) (H : Hp) (n : Nat) (rows : Nat → List V) : Prop := ∀ H1, Ex H H1 → ∀ Q : VK, (∀ (p : Addr) (qs : List Addr) (H2 : Hp), H1 p = none → Ex H1 H2 → qs.length = n → H2 p = some (.lst (qs.map V.ref)) → (∀ j q, qs[j]? = some q → H1 q = none ∧ H2 q = some (.tup (rows j))) → Q (.ref p) H2) → te σ H1 Q
def EvUU (te : TE) (σ : L2.St) (H : Hp) (n : Nat) (rows : Nat → List V) : Prop := ∀ H1, Ex H H1 → ∀ Q : VK, (∀ (p : Addr) (qs : List Addr) (H2 : Hp), H1 p = none → Ex H1 H2 → qs.length = n → H2 p = some (.tup (qs.map V.ref)) → (∀ j q, qs[j]? = some q → H1 q = none ∧ H2 q = some (.tup (rows j))) → Q (.ref p) H2) → te σ H1 Q
theorem yes_at {Q : Bool → Hp → Prop} (h : Q true H) : tYes σ H Q := h
theorem ell_lcT {a : Addr} {xs : List V} {tl : TE} {g : TG} {vs : List Nat} {σ' : Nat → L2.St} (rows : Nat → List V) (h : Ev tl σ H (.ref a)) (hx : SqT K H a xs) (hz : xs.length ≤ 40000)
    (hg : ∀ (i : Nat) (x : V) H1 (Q : L2.St → Hp → Prop), Ex H H1 → xs[i]? = some x → Q (σ' i) H1 → g x (wipe σ vs) H1 Q) (hw : ∀ i, wipe (σ' i) vs = wipe σ vs)
    (he : ∀ (i : Nat) (x : V) H1, Ex H H1 → xs[i]? = some x → EvU te (σ' i) H1 (rows i)) :
    EvLL (tLc (iTup K tl) g tYes te vs) σ H xs.length rows := fun H0 e Q q => h H0 e _ fun H1 e1 => ⟨a, rfl, ⟨xs, ex_t (e.trans e1) hx⟩, fun Dl hD =>
  lc_tup (xs := xs) (fun i H' => H1 Dl = none ∧ Ex H1 H' ∧ ∃ qs : List Addr, qs.length = i ∧ H' Dl = some (.lst (qs.map V.ref)) ∧ ∀ j q, qs[j]? = some q → H1 q = none ∧ H' q = some (.tup (rows j)) ∧ q ≠ Dl) ⟨hD, Ex.new hD, [], rfl, upd_same, fun j q hq => by simp at hq⟩ (fun i H' _ p => ex_t ((e.trans e1).trans p.2.1) hx)
    (fun i x H' hi ⟨p1, p2, qs, p3, p4, p5⟩ => hg i x H' _ ((e.trans e1).trans p2) hi ⟨hw i, by
      refine yes_at (iteT ?_)
      refine he i x H1 (e.trans e1) hi H' p2 _ fun q H4 hq e4 h4 => ⟨qs.map V.ref, e4 _ _ p4, sz_lt (by rw [List.length_map]; have := (List.getElem?_eq_some_iff.mp hi).1; omega), p1, Ex.mut (p2.trans e4) p1, qs ++ [q], by rw [List.length_append, p3] <;> rfl, by rw [upd_same, List.map_append] <;> rfl, fun j r hr => ?_⟩
      have qD : q ≠ Dl := fun z => by rw [z, p4] at hq; cases hq
      by_cases hj : j < qs.length
      · rw [List.getElem?_append_left hj] at hr
        obtain ⟨r1, r2, r3⟩ := p5 j r hr
        exact ⟨r1, by rw [upd_ne r3]; exact e4 _ _ r2, r3⟩
      · have hj2 : j = qs.length := by
          have := (List.getElem?_eq_some_iff.mp hr).1
          rw [List.length_append] at this
          have e1 : ([q] : List Addr).length = 1 := rfl
          omega
        subst hj2
        rw [List.getElem?_append_right (Nat.le_refl _), Nat.sub_self] at hr
        obtain rfl : q = r := Option.some.inj hr
        exact ⟨fresh_back p2 hq, by rw [upd_ne qD, p3]; exact h4, qD⟩⟩)
    (fun H' ⟨p1, p2, qs, p3, p4, p5⟩ => q Dl qs H' (fresh_back e1 p1) (e1.trans p2) p3 p4 fun j r hr => ⟨fresh_back e1 (p5 j r hr).1, (p5 j r hr).2.1⟩)⟩
theorem euu_tuple {n : Nat} {rows : Nat → List V} (h : EvLL te σ H n rows) : EvUU (tCB (fun xs H Q => ∃ p ys, xs = [.ref p] ∧ ((SqL K H p ys ∧ ∀ l, H l = none → Q (.ref l) (upd H l (.tup ys))) ∨ (SqT K H p ys ∧ Q (.ref p) H))) (tCons te tNil)) σ H n rows := fun H1 e Q q =>
  h H1 e _ fun p qs H2 _ e2 hl h2 h3 => ⟨p, qs.map V.ref, rfl, .inl ⟨sq_of h2, fun l hn => q l qs _ (fresh_back e2 hn) (e2.trans (Ex.new hn)) hl upd_same fun j r hr => ⟨(h3 j r hr).1, Ex.new hn _ _ (h3 j r hr).2⟩⟩⟩
/-- self.f = a new tuple of new tuples -/
theorem q_fldU {p C dx : Addr} {fs : List (Str × V)} {f : Str} {n : Nat} {rows : Nat → List V} (hv : EvUU tv σ H n rows) (ha : Ev ta σ H (.ref p)) (hp : H p = some (.ins C dx fs)) (c : Cls K C) (na : NoAttr K C f) (hl : fs.length < 1000)
    (k : ∀ (t : Addr) (qs : List Addr) (H1 : Hp), ExB p H H1 → qs.length = n → H1 t = some (.tup (qs.map V.ref)) → (∀ j q, qs[j]? = some q → H1 q = some (.tup (rows j))) → H1 p = some (.ins C dx (putF f (.ref t) fs)) → D.nx σ H1) : sFld K ta tv f D σ H :=
  hv H (Ex.refl _) _ fun t qs H1 ht e1 hq h1 h3 => ha H1 e1 _ fun H2 e2 => ⟨p, C, dx, fs, rfl, e2 _ _ (e1 _ _ hp), c, na, hl, k t qs _ (fun b o hb ne => by rw [upd_ne ne]; exact e2 _ _ (e1 _ _ hb)) hq
    (by rw [upd_ne (fun z => by rw [z, hp] at ht; cases ht)]; exact e2 _ _ h1) (fun j q hj => by rw [upd_ne (fun z => by have := (h3 j q hj).1; rw [z, hp] at this; cases this)]; exact e2 _ _ (h3 j q hj).2) upd_same⟩
end
def allWho : List Str := ["ugo", "u", "g", "o", "ug", "uo", "go"]
def allSign : List Str := ["+", "-", "="]
/-- the fields of a clause -/
def clFs (who sign what : Str) (t : Addr) : List (Str × V) := putF "_tables" (.ref t) (putF "_what" (.str what) (putF "_sign" (.str sign) (putF "_who" (.str who) [])))
def tabF (who sign what : Str) (i : Nat) : Nat → Nat := partF who sign what (if i = 0 then 114 else if i = 1 then 119 else 120) (if i = 3 then "folder" else "file")
structure ClauseAt (K : PySem.W.Frag) (a : Ads) (H : Hp) (p : Addr) (who sign what : Str) : Prop where
  ob : ∃ dx t, H p = some (.ins a.f_Clause dx (clFs who sign what t)) ∧ Tab K H t (tabF who sign what 0) (tabF who sign what 1) (tabF who sign what 2) (tabF who sign what 3)
theorem ClauseAt.mono {K : PySem.W.Frag} {a : Ads} {H H' : Hp} {p : Addr} {who sign what : Str} (m : ClauseAt K a H p who sign what) (e : Ex H H') : ClauseAt K a H' p who sign what := by
  obtain ⟨dx, t, h, ht⟩ := m.ob
  exact ⟨dx, t, e _ _ h, ht.mono e⟩
theorem fs_who (who sign what : Str) (t : Addr) : (clFs who sign what t).lookup ("_who" : Str) = some (.str who) := by
  unfold clFs
  rw [lookup_putF, if_neg (by decide +kernel), lookup_putF, if_neg (by decide +kernel), lookup_putF, if_neg (by decide +kernel), lookup_putF, if_pos rfl]
theorem fs_sign (who sign what : Str) (t : Addr) : (clFs who sign what t).lookup ("_sign" : Str) = some (.str sign) := by
  unfold clFs
  rw [lookup_putF, if_neg (by decide +kernel), lookup_putF, if_neg (by decide +kernel), lookup_putF, if_pos rfl]
theorem fs_what (who sign what : Str) (t : Addr) : (clFs who sign what t).lookup ("_what" : Str) = some (.str what) := by
  unfold clFs
  rw [lookup_putF, if_neg (by decide +kernel), lookup_putF, if_pos rfl]
theorem fs_tables (who sign what : Str) (t : Addr) : (clFs who sign what t).lookup ("_tables" : Str) = some (.ref t) := by
  unfold clFs
  rw [lookup_putF, if_pos rfl]
def spClause (K : PySem.W.Frag) (a : Ads) : Sp := fun vs H Q _ => ∃ (p dx : Addr) (who0 who sign what : Str), vs = [.ref p, .str who0, .str sign, .str what] ∧ (who0 = who ∨ (who0 = "a" ∧ who = "ugo")) ∧ who ∈ allWho ∧ sign ∈ allSign ∧ what ∈ allw ∧ H p = some (.ins a.f_Clause dx []) ∧ ∀ H', ExB p H H' → ClauseAt K a H' p who sign what → Q .non H'
theorem who_facts : ∀ who ∈ allWho, ((!decide (V.str who = V.str "a")) && (decide (V.str who = V.str "") || !(decide (V.str who = V.str (Txt.join "" (chosen who "ugo")))))) = false ∧ decide (V.str who = V.str "a") = false := by decide +kernel
theorem who0_facts {who0 who : Str} (h : who0 = who ∨ (who0 = "a" ∧ who = "ugo")) (hw : who ∈ allWho) : ((!decide (V.str who0 = V.str "a")) && (decide (V.str who0 = V.str "") || !(decide (V.str who0 = V.str (Txt.join "" (chosen who0 "ugo")))))) = false := by
  rcases h with rfl | ⟨rfl, _⟩
  · exact (who_facts _ hw).1
  · rw [decide_eq_true rfl]; rfl
theorem who0_a {who0 who : Str} (h : who0 = who ∨ (who0 = "a" ∧ who = "ugo")) (hw : who ∈ allWho) (hb : decide (V.str who0 = V.str "a") = true) : who = "ugo" := by
  rcases h with rfl | ⟨_, e⟩
  · rw [(who_facts _ hw).2] at hb; cases hb
  · exact e
theorem who0_n {who0 who : Str} (h : who0 = who ∨ (who0 = "a" ∧ who = "ugo")) (hb : decide (V.str who0 = V.str "a") = false) : who0 = who := by
  rcases h with e | ⟨rfl, _⟩
  · exact e
  · rw [decide_eq_true rfl] at hb; cases hb
theorem who_ok : ∀ who ∈ allWho, whoOk who := by
  have h : ∀ who ∈ allWho, (who.cps.toList.all fun c => decide (c = 117 ∨ c = 103 ∨ c = 111)) = true ∧ maskN who ≤ 7 ∧ who.cps.size ≤ 3 := by decide +kernel
  intro who hw
  obtain ⟨h1, h2, h3⟩ := h who hw
  exact ⟨fun c hc => of_decide_eq_true (List.all_eq_true.mp h1 c hc), h2, h3⟩
theorem sign_facts : ∀ sign ∈ allSign, inV (.str sign) [.str "+", .str "-", .str "="] = true := by decide +kernel
theorem what_facts : ∀ what ∈ allw, ((!inV (.str what) [.str "u", .str "g", .str "o"]) && !(decide (V.str what = V.str (Txt.join "" (chosen what "rwxX"))))) = false := by decide +kernel
end KY
set_option Elab.async false
set_option linter.all false
set_option maxRecDepth 100000
set_option maxHeartbeats 4000000
namespace KY
open PySem PySem.Spec PyProof.Rows L2 Evl
local macro_rules | `(tactic| walk_at "ev") => `(tactic| repeat' (first | exact ev_c | exact ev_var rfl | exact rv_I0 | refine' rv_I ?_ | refine' rv_eq ?_ | refine' rv_ne ?_ | refine' ev_op ?_ ?_ ?_ | exact ea_nil | refine' ea_cons ?_ ?_ | refine' et_test ?_ | refine' et_B ?_ | refine' et_not ?_ | refine' ev_notV ?_))

theorem Tab.mk4 {K : PySem.W.Frag} {H : Hp} {t : Addr} {qs : List Addr} {rows : Nat → Nat → Nat} (hl : qs.length = 4) (ht : H t = some (.tup (qs.map V.ref))) (h : ∀ j q, qs[j]? = some q → H q = some (.tup (rowV (rows j)))) : Tab K H t (rows 0) (rows 1) (rows 2) (rows 3) := by
  match qs, hl with
  | [q0, q1, q2, q3], _ => exact ⟨q0, q1, q2, q3, st_of ht, st_of (h 0 q0 rfl), st_of (h 1 q1 rfl), st_of (h 2 q2 rfl), st_of (h 3 q3 rfl)⟩
theorem letters_are : ("r" : Str) = sg 114 ∧ ("w" : Str) = sg 119 ∧ ("x" : Str) = sg 120 := by decide +kernel
section
variable {P : Program} {w : World} {K : PySem.W.Frag} {mg : Str → Option Value} {base : Heap} {a : Ads}
theorem ok_Clause_init (T : Txt w K mg a) : FnOk P w K mg base CX0 5 a.f_ClauseD_initD a.d_ClauseD_initD ["self", "who", "sign", "what"] (spClause K a) := by
  have G_is_choice : FnOk P w K mg base CX0 3 _ _ _ _ := (ok_is_choice T).mono (by decide)
  have G_part_of : FnOk P w K mg base CX0 3 _ _ _ _ := ok_part_of T
  refine T.fn_ClauseD_initD.ok sc_ClauseD_initD (fun vs H Q E h => ?_) (fun cdv A outer s H vs Q E hr h => ?_)
  · obtain ⟨_, _, _, _, _, _, rfl, _⟩ := h
    rfl
  · obtain ⟨p, dx, who0, who, sign, what, rfl, hw0, hwho, hsign, hwhat, hp, k⟩ := h
    have hrc : Room 3 _ := hr.mono (by decide)
    refine ⟨_, (pss_cons (ps_if (PW.pt (pw_and (pt_cmpR op_ne (pv 1) pe_str (nomark _)) (pw_and1 (PW.pt (pw_or (pt_cmpR op_eq (pv 1) pe_str (nomark _)) (pw_or1 (pt_not (pt_val (pe_call G_is_choice hrc rfl T.mg_is_choice T.fn_is_choice.kp (bd_is_choice T) .nil pass0 (pa_cons (pv 1) (pa_cons pe_str pa_nil))))))))))) (pss_one ps_never) pss_nil)
    (pss_cons (ps_if (pt_cmpR op_notIn_seq (pv 2) (pe_glob (v := .ref a.k_SIGNS) rfl T.mg_SIGNS rfl) (by rfl)) (pss_one ps_never) pss_nil)
    (pss_cons (ps_if (PW.pt (pw_and (pt_cmpR op_notIn_seq (pv 3) (pe_tup (pa_cons pe_str (pa_cons pe_str (pa_cons pe_str pa_nil)))) (by rfl)) (pw_and1 (pt_not (pt_val (pe_call G_is_choice hrc rfl T.mg_is_choice T.fn_is_choice.kp (bd_is_choice T) .nil pass0 (pa_cons (pv 3) (pa_cons pe_str pa_nil)))))))) (pss_one ps_never) pss_nil)
    (pss_cons (ps_fld (pv 0) (pe_ifExp (pt_cmpR op_eq (pv 1) pe_str (nomark _)) pe_str (pv 1)) rfl)
    (pss_cons (ps_fld (pv 0) (pv 2) rfl)
    (pss_cons (ps_fld (pv 0) (pv 3) rfl)
    (pss_one (ps_fld (pv 0) (pe_callTy call_tuple_of (by rfl) T.b_tuple (by decide +kernel) (pa_cons (pe_lc (own := [("letter", 4), ("form", 5)]) (g := gTup K 2 (gCons (gName 4) (gCons (gName 5) gNil))) rfl sc_ClauseD_initD.nd (pi_tup (pe_glob (v := .ref a.k_PARTS) rfl T.mg_PARTS rfl)) (blkOk_by (own := [("letter", 4), ("form", 5)]) (N := n_ClauseD_initD) (sc := defScope s_ClauseD_initD) (by decide +kernel)) (fun _ _ _ _ _ => (pg_tup rfl (pgs_cons (pg_name (i := 4) sc_ClauseD_initD.nd rfl (Or.inl rfl)) (pgs_cons (pg_name (i := 5) sc_ClauseD_initD.nd rfl (Or.inl rfl)) pgs_nil)))) (fun _ _ _ _ _ => pts_nil) (fun _ _ _ _ _ => (pe_call G_part_of hrc rfl T.mg_part_of T.fn_part_of.kp (bd_part_of T) .nil pass0 (pa_cons (pe_fldE (K := K) (pv 0) rfl) (pa_cons (pv 2) (pa_cons (pv 3) (pa_cons (pv 4) (pa_cons (pv 5) pa_nil)))))))) pa_nil)) rfl)))))))), ?_⟩
    have choice : ∀ (i : Nat) (v l : Str) (hl : l.cps.size ≤ 20) (E : XK) (σ : L2.St) (H2 : Hp), σ[i]? = some (some (.str v)) → Ev (tCall spChoice [] E (tCons (tVar i) (tCons (tC (.str l)) tNil))) σ H2 (.bl (decide (V.str v = V.str (Txt.join "" (chosen v l))))) := fun i v l hl E σ H2 hs =>
      ev_call (vs := [.str v, .str l]) (ea_cons (ev_var hs) (ea_cons ev_c ea_nil)) fun H3 e3 Q3 q3 E3 => ⟨v, l, rfl, hl, q3⟩
    refine q_when (b := false) (et_is (et_and (et_test (ev_op (ev_var rfl) ev_c (rv_ne rfl))) fun _ => et_or (et_test (ev_op (ev_var rfl) ev_c (rv_eq rfl))) fun _ => et_not (et_B (choice 1 who0 "ugo" (by decide +kernel) _ _ _ rfl))) (who0_facts hw0 hwho)) (fun z => nomatch z) fun _ H1 e1 => ?_
    refine q_when (b := false) (et_is (et_test (ev_op (ev_var rfl) ev_c (rv_niT (T.t_SIGNS _) rfl rfl))) (by rw [sign_facts sign hsign] <;> rfl)) (fun z => nomatch z) fun _ H2 e2 => ?_
    refine q_when (b := false) (et_is (et_and (et_test (ev_niU (ev_var rfl) (eu_tup (by walk_at "ev") (by decide)) rfl rfl)) fun _ => et_not (et_B (choice 3 what "rwxX" (by decide +kernel) _ _ _ rfl))) (what_facts what hwhat)) (fun z => nomatch z) fun _ H3 e3 => ?_
    have hp3 := e3 _ _ (e2 _ _ (e1 _ _ hp))
    refine q_fld (y := .str who) (ev_if (b := decide (V.str who0 = V.str "a")) (et_test (ev_op (ev_var rfl) ev_c (rv_eq rfl))) (fun hb => ev_is ev_c (by rw [who0_a hw0 hwho hb])) fun hb => ev_is (ev_var rfl) (by rw [who0_n hw0 hb])) (ev_var rfl) hp3 T.c_Clause T.n_who_Clause (by decide) fun H4 e4 hp4 => ?_
    refine q_fld (y := .str sign) (ev_var rfl) (ev_var rfl) hp4 T.c_Clause T.n_sign_Clause (by show 1 < 1000; decide) fun H5 e5 hp5 => ?_
    refine q_fld (y := .str what) (ev_var rfl) (ev_var rfl) hp5 T.c_Clause T.n_what_Clause (by exact Nat.lt_of_le_of_lt (Nat.le_trans (length_putF _ _ _) (Nat.succ_le_succ (length_putF _ _ _))) (by decide)) fun H6 e6 hp6 => ?_
    obtain ⟨p1, p2, p3, p4, ht, h1, h2, h3, h4⟩ := T.t_PARTS H6
    have hwho6 : (putF "_what" (V.str what) (putF "_sign" (V.str sign) (putF "_who" (V.str who) []))).lookup ("_who" : Str) = some (.str who) := by
      rw [lookup_putF, if_neg (by decide +kernel), lookup_putF, if_neg (by decide +kernel), lookup_putF, if_pos rfl]
    have gPart : ∀ (i : Nat) (x : V) (H1 : Hp), Ex H6 H1 → ([.ref p1, .ref p2, .ref p3, .ref p4] : List V)[i]? = some x → ∃ q : Addr, x = .ref q ∧ SqT K H1 q [.str (sg (if i = 0 then 114 else if i = 1 then 119 else 120)), .str (if i = 3 then "folder" else "file")] := fun i x H1 e hi => by
      match i, hi with
      | 0, hi => exact ⟨p1, (Option.some.inj hi).symm, by rw [letters_are.1] at h1; exact ex_t e h1⟩
      | 1, hi => exact ⟨p2, (Option.some.inj hi).symm, by rw [letters_are.2.1] at h2; exact ex_t e h2⟩
      | 2, hi => exact ⟨p3, (Option.some.inj hi).symm, by rw [letters_are.2.2] at h3; exact ex_t e h3⟩
      | 3, hi => exact ⟨p4, (Option.some.inj hi).symm, by rw [letters_are.2.2] at h4; exact ex_t e h4⟩
      | n + 4, hi => simp at hi
    refine q_fldU (n := 4) (rows := fun i => rowV (tabF who sign what i)) (euu_tuple (ell_lcT (xs := [.ref p1, .ref p2, .ref p3, .ref p4]) (σ' := fun i => [some (.ref p), some (.str who0), some (.str sign), some (.str what), some (.str (sg (if i = 0 then 114 else if i = 1 then 119 else 120))), some (.str (if i = 3 then "folder" else "file"))]) (fun i => rowV (tabF who sign what i)) ev_c ht (by show 4 ≤ 40000; decide) (fun i x H1 Q' e hi q => ?_) (fun _ => rfl) (fun i x H1 e hi => ?_))) (ev_var rfl) hp6 T.c_Clause T.n_tables_Clause ?_ ?_
    · obtain ⟨q', rfl, hq'⟩ := gPart i x H1 e hi
      exact ⟨q', _, rfl, hq', rfl, _, _, rfl, _, _, rfl, rfl, q⟩
    · exact eu_call (vs := [.str who, .str sign, .str what, .str (sg (if i = 0 then 114 else if i = 1 then 119 else 120)), .str (if i = 3 then "folder" else "file")]) (ea_cons (ev_fld (ev_var rfl) (e _ _ hp6) T.c_Clause T.n_who_Clause hwho6) (by walk_at "ev")) fun H2 e2 Q2 q2 E2 => ⟨who, sign, what, _, _, rfl, who_ok who hwho, hwhat, q2⟩
    · exact Nat.lt_of_le_of_lt (Nat.le_trans (length_putF _ _ _) (Nat.succ_le_succ (Nat.le_trans (length_putF _ _ _) (Nat.succ_le_succ (length_putF _ _ _))))) (by decide)
    · intro t qs H7 e7 hl h7 hr7 hp7
      refine k H7 (((((ExB.of e1).trans (ExB.of e2)).trans (ExB.of e3)).trans e4).trans (e5.trans (e6.trans e7))) ⟨dx, t, hp7, ?_⟩
      exact Tab.mk4 (rows := tabF who sign what) hl h7 hr7
theorem ok_Clause_who (T : Txt w K mg a) : FnOk P w K mg base CX0 1 a.f_Clause_who a.d_Clause_who ["self"] (getSp a.f_Clause "_who") := by
  obtain ⟨oc, od, kV, doc, pm, an, cdv, ct, osl, e, lk, hcd⟩ := T.fn_Clause_who.ex
  rw [e]
  exact fn_getter (by rw [← e]; exact lk) hcd sc_Clause_who rfl rfl T.c_Clause T.n_who_Clause
theorem ok_Clause_sign (T : Txt w K mg a) : FnOk P w K mg base CX0 1 a.f_Clause_sign a.d_Clause_sign ["self"] (getSp a.f_Clause "_sign") := by
  obtain ⟨oc, od, kV, doc, pm, an, cdv, ct, osl, e, lk, hcd⟩ := T.fn_Clause_sign.ex
  rw [e]
  exact fn_getter (by rw [← e]; exact lk) hcd sc_Clause_sign rfl rfl T.c_Clause T.n_sign_Clause
theorem ok_Clause_what (T : Txt w K mg a) : FnOk P w K mg base CX0 1 a.f_Clause_what a.d_Clause_what ["self"] (getSp a.f_Clause "_what") := by
  obtain ⟨oc, od, kV, doc, pm, an, cdv, ct, osl, e, lk, hcd⟩ := T.fn_Clause_what.ex
  rw [e]
  exact fn_getter (by rw [← e]; exact lk) hcd sc_Clause_what rfl rfl T.c_Clause T.n_what_Clause
end
end KY
set_option Elab.async false
set_option linter.all false
set_option maxRecDepth 100000
set_option maxHeartbeats 4000000
namespace KY
open PySem PySem.Spec PyProof.Rows L2 Evl
local macro_rules | `(tactic| walk_at "ev") => `(tactic| repeat' (first | exact ev_c | exact ev_var rfl | exact rv_I0 | refine' rv_I ?_ | refine' rv_eq ?_ | refine' rv_ne ?_ | refine' ev_op ?_ ?_ ?_ | exact ea_nil | refine' ea_cons ?_ ?_ | refine' et_test ?_ | refine' et_B ?_ | refine' et_not ?_ | refine' ev_notV ?_))

/-- a new Mode -/
def EvM (a : Ads) (te : TE) (σ : L2.St) (H : Hp) (n : Nat) : Prop := ∀ H1, Ex H H1 → ∀ Q : VK, (∀ p H2, H1 p = none → Ex H1 H2 → ModeAt a H2 p n → Q (.ref p) H2) → te σ H1 Q
theorem em_mode {a : Ads} {te : TE} {σ : L2.St} {H : Hp} {n : Nat} {E : XK} (h : Ev te σ H (.int n)) (hn : n < 512) : EvM a (tMake a.f_Mode (spMode a) [] E (tCons te tNil)) σ H n := fun H1 e1 Q q =>
  h H1 e1 _ fun H2 e2 x dx hx hdx hne => ⟨x, dx, n, rfl, hn, upd_same, fun H3 k3 h3 => ⟨rfl, q x H3 (fresh_back e2 hx) (e2.trans fun b o hb => by
    have bx := ne_of_none hb hx
    have bdx := ne_of_none hb hdx
    exact k3 b o (by rw [upd_ne bx, upd_ne bdx]; exact hb) bx) ⟨dx, h3⟩⟩⟩
theorem num_small : ∀ p0, p0 < 8 → ∀ p1, p1 < 8 → ∀ p2, p2 < 8 → 0 ≤ Builtin.bitOr (Builtin.bitOr (bitsN p0 4 : Nat) (bitsN p1 2 : Nat)) (bitsN p2 1 : Nat) ∧ Builtin.bitOr (Builtin.bitOr (bitsN p0 4 : Nat) (bitsN p1 2 : Nat)) (bitsN p2 1 : Nat) < 512 := by
  have h : ((List.range 8).all fun (p0 : Nat) => (List.range 8).all fun (p1 : Nat) => (List.range 8).all fun (p2 : Nat) => decide (0 ≤ Builtin.bitOr (Builtin.bitOr (bitsN p0 4 : Nat) (bitsN p1 2 : Nat)) (bitsN p2 1 : Nat) ∧ Builtin.bitOr (Builtin.bitOr (bitsN p0 4 : Nat) (bitsN p1 2 : Nat)) (bitsN p2 1 : Nat) < 512)) = true := by decide +kernel
  exact fun p0 h0 p1 h1 p2 h2 => of_decide_eq_true (all_nat (all_nat (all_nat h p0 h0) p1 h1) p2 h2)
/-- the number of the mode behind a clause -/
def resN (who sign what : Str) (n : Nat) (form : Str) : Nat := (numI (tabF who sign what 0) (tabF who sign what 1) (tabF who sign what 2) (tabF who sign what 3) n form).toNat
theorem tab_low {who sign what : Str} (hw : who ∈ allWho) (i : Nat) : Low (tabF who sign what i) := fun j hj => (partF_eq (who_ok who hw) hj).2
theorem res_eq {who sign what form : Str} {n : Nat} (hw : who ∈ allWho) (hn : n < 512) : numI (tabF who sign what 0) (tabF who sign what 1) (tabF who sign what 2) (tabF who sign what 3) n form = (resN who sign what n form : Nat) ∧ resN who sign what n form < 512 := by
  have lq : Low (if decide (V.str form = V.str "file") then tabF who sign what 2 else tabF who sign what 3) := by
    cases decide (V.str form = V.str "file")
    · exact tab_low hw 3
    · exact tab_low hw 2
  have z := num_small _ (tab_low (sign := sign) (what := what) hw 0 _ (pat_lt 4 (by decide) n hn)) _ (tab_low (sign := sign) (what := what) hw 1 _ (pat_lt 2 (by decide) n hn)) _ (lq _ (pat_lt 1 (by decide) n hn))
  have z' : 0 ≤ numI (tabF who sign what 0) (tabF who sign what 1) (tabF who sign what 2) (tabF who sign what 3) n form ∧ numI (tabF who sign what 0) (tabF who sign what 1) (tabF who sign what 2) (tabF who sign what 3) n form < 512 := z
  unfold resN
  omega
/-- a mode, as a number or as a Mode -/
def AsMode (a : Ads) (H : Hp) (v : V) (n : Nat) : Prop := v = .int n ∨ ∃ p, v = .ref p ∧ ModeAt a H p n
def spCall (K : PySem.W.Frag) (a : Ads) : Sp := fun vs H Q _ => ∃ (p : Addr) (v : V) (n : Nat) (who sign what form : Str), vs = [.ref p, v, .str form] ∧ ClauseAt K a H p who sign what ∧ who ∈ allWho ∧ n < 512 ∧ AsMode a H v n ∧ ∀ q H', H q = none → Ex H H' → ModeAt a H' q (resN who sign what n form) → Q (.ref q) H'
section
variable {P : Program} {w : World} {K : PySem.W.Frag} {mg : Str → Option Value} {base : Heap} {a : Ads}
theorem ok_Clause_call (T : Txt w K mg a) : FnOk P w K mg base CX0 7 a.f_ClauseD_callD a.d_ClauseD_callD ["self", "mode", "form"] (spCall K a) := by
  have G_Mode_init : FnOk P w K mg base CX0 5 _ _ _ _ := ok_Mode_init T
  have G_number_behind : FnOk P w K mg base CX0 5 _ _ _ _ := (ok_number_behind T).mono (by decide)
  have G_number_of : FnOk P w K mg base CX0 5 _ _ _ _ := ok_number_of T
  refine T.fn_ClauseD_callD.ok sc_ClauseD_callD (fun vs H Q E h => ?_) (fun cdv A outer s H vs Q E hr h => ?_)
  · obtain ⟨_, _, _, _, _, _, _, rfl, _⟩ := h
    rfl
  · obtain ⟨p, v, n, who, sign, what, form, rfl, c, hw, hn, hv, k⟩ := h
    have hrm : Room 6 _ := hr
    have hrc : Room 5 _ := hr.mono (by decide)
    obtain ⟨dx, t, hp, htab⟩ := c.ob
    obtain ⟨re, rl⟩ := res_eq (sign := sign) (what := what) (form := form) hw hn
    refine ⟨_, (pss_one (ps_ret (pe_make T.mk_Mode G_Mode_init hrm rfl T.mg_Mode (bd_ModeD_initD T) .nil pass0 (pa_cons (pe_call G_number_behind hrc rfl T.mg_number_behind T.fn_number_behind.kp (bd_number_behind T) .nil pass0 (pa_cons (pe_fld (pv 0) rfl) (pa_cons (pe_call G_number_of hrc rfl T.mg_number_of T.fn_number_of.kp (bd_number_of T) .nil pass0 (pa_cons (pv 1) pa_nil)) (pa_cons (pv 2) pa_nil)))) pa_nil)))), ?_⟩
    refine em_mode (a := a) (n := resN who sign what n form) (ev_is (ev_call (vs := [.ref t, .int n, .str form]) (ea_cons (ev_fld (ev_var rfl) hp T.c_Clause T.n_tables_Clause (fs_tables who sign what t)) (ea_cons (ev_call (vs := [v]) (by walk_at "ev") fun H1 e1 Q1 q1 E1 => ⟨v, n, rfl, hn, ?_, q1⟩) (by walk_at "ev")))
      fun H1 e1 Q1 q1 E1 => ⟨t, _, _, _, _, n, form, rfl, hn, htab.mono e1, tab_low hw 0, tab_low hw 1, tab_low hw 2, tab_low hw 3, q1⟩) (congrArg V.int re)) rl H (Ex.refl H) _ fun q H1 hq e1 m => k q H1 hq e1 m
    rcases hv with rfl | ⟨q, rfl, m⟩
    · exact .inl rfl
    · exact .inr ⟨q, rfl, m.mono e1⟩
end
end KY
set_option Elab.async false
set_option linter.all false
set_option maxRecDepth 100000
set_option maxHeartbeats 4000000
namespace KY
open PySem PySem.Spec PyProof.Rows L2 Evl
local macro_rules | `(tactic| walk_at "ev") => `(tactic| repeat' (first | exact ev_c | exact ev_var rfl | exact rv_I0 | refine' rv_I ?_ | refine' rv_eq ?_ | refine' rv_ne ?_ | refine' ev_op ?_ ?_ ?_ | exact ea_nil | refine' ea_cons ?_ ?_ | refine' et_test ?_ | refine' et_B ?_ | refine' et_not ?_ | refine' ev_notV ?_))

/-! ### the pen: a list of a list of ints, how far it is, what rests -/
def PenAt (H : Hp) (p : Addr) (n : Nat) : Prop := ∃ (l : Addr) (ns : List Int) (at_ : Nat) (rest : Int), H p = some (.lst [.ref l, .int at_, .int rest]) ∧ H l = some (.lst (ns.map V.int)) ∧ l ≠ p ∧ at_ ≤ n ∧ 0 ≤ rest ∧ ns.length ≤ 63
theorem PenAt.keep {H H' : Hp} {p : Addr} {n : Nat} (h : PenAt H p n) (e : Ex H H') : PenAt H' p n := by
  obtain ⟨l, ns, at_, rest, h1, h2, h3, h4, h5, h6⟩ := h
  exact ⟨l, ns, at_, rest, e _ _ h1, e _ _ h2, h3, h4, h5, h6⟩
theorem PenAt.ex {H : Hp} {p : Addr} {n : Nat} (h : PenAt H p n) : ∃ o, H p = some o := by
  obtain ⟨l, ns, at_, rest, h1, _⟩ := h
  exact ⟨_, h1⟩
/-- all but p stay, and p's first item does -/
structure ExP (p : Addr) (H H' : Hp) : Prop where
  ex : ExB p H H'
  fix : ∀ l x y, H p = some (.lst [.ref l, x, y]) → ∃ x' y', H' p = some (.lst [.ref l, x', y'])
theorem ExP.trans {p : Addr} {H H1 H2 : Hp} (a : ExP p H H1) (b : ExP p H1 H2) : ExP p H H2 := ⟨a.ex.trans b.ex, fun l x y h => by
  obtain ⟨x1, y1, h1⟩ := a.fix l x y h
  exact b.fix l x1 y1 h1⟩
theorem ExP.of {p : Addr} {H H' : Hp} (e : Ex H H') : ExP p H H' := ⟨ExB.of e, fun l x y h => ⟨x, y, e _ _ h⟩⟩
def spPen (K : PySem.W.Frag) : Sp := fun vs H Q _ => ∃ (s : Addr) (ns : List Int), vs = [.ref s] ∧ SqL K H s (ns.map V.int) ∧ ns.length ≤ 63 ∧ ∀ p H', H p = none → Ex H H' → PenAt H' p 0 → Q (.ref p) H'
def spDraw : Sp := fun vs H Q _ => ∃ (p : Addr) (n m : Nat), vs = [.ref p, .int m] ∧ PenAt H p n ∧ n < 100000 ∧ 0 < m ∧ m ≤ 1000 ∧ ∀ (d : Nat) H', d < m → ExP p H H' → PenAt H' p (n + 1) → Q (.int d) H'
section
variable {K : PySem.W.Frag} {σ : L2.St} {H H' : Hp} {ta tb te tx tv : TE} {t u : TT} {x y z v : V} {r : R2}
theorem el_sliceL {p : Addr} {xs : List V} {tl th : TO} {lo hi : Option Int} (h : Ev te σ H (.ref p)) (h1 : EvO tl σ H lo) (h2 : EvO th σ H hi) (hs : SqL K H p xs) : EvL (tSl (rSlL K) te tl th) σ H (cutV xs lo hi) := el_sl h h1 h2 hs
theorem el_listN {xs : List V} (h : EvL te σ H xs) : EvL (tCB (fun xs H Q => ∃ p ys, xs = [V.ref p] ∧ (SqL K H p ys ∨ SqT K H p ys) ∧ ∀ l, H l = none → Q (.ref l) (upd H l (.lst ys))) (tCons te tNil)) σ H xs := fun H1 e Q q =>
  h H1 e _ fun p H2 _ e2 h2 => ⟨p, xs, rfl, .inl (sq_of h2), fun l hl => q l _ (fresh_back e2 hl) (e2.trans (Ex.new hl)) upd_same⟩
theorem cut_ints (ns : List Int) (lo hi : Option Int) : ∃ ms : List Int, cutV (ns.map V.int) lo hi = ms.map V.int ∧ ms.length ≤ ns.length := by
  refine ⟨(ns.drop (HT.sIx ns.length 0 lo)).take (HT.sIx ns.length ns.length hi - HT.sIx ns.length 0 lo), ?_, ?_⟩
  · unfold cutV
    rw [List.length_map, List.map_take, List.map_drop]
  · rw [List.length_take, List.length_drop]
    omega
theorem ev_int {i : Int} (h : Ev te σ H (.int i)) : Ev (tCB (fun xs H Q => (∃ i, xs = [V.int i] ∧ Q (.int i) H) ∨ ∃ k, xs = [V.bl k] ∧ Q (.int (if k then 1 else 0)) H) (tCons te tNil)) σ H (.int i) := fun H1 e Q q => h H1 e _ fun H2 e2 => .inl ⟨i, rfl, q H2 e2⟩
theorem ev_intB {k : Bool} (h : Ev te σ H (.bl k)) : Ev (tCB (fun xs H Q => (∃ i, xs = [V.int i] ∧ Q (.int i) H) ∨ ∃ k, xs = [V.bl k] ∧ Q (.int (if k then 1 else 0)) H) (tCons te tNil)) σ H (.int (if k then 1 else 0)) := fun H1 e Q q => h H1 e _ fun H2 e2 => .inr ⟨k, rfl, q H2 e2⟩
theorem ev_lenS {p : Addr} {xs : List V} (ha : Ev ta σ H (.ref p)) (h : SqL K H p xs) : Ev (tCB (fun xs H Q => ∃ p ys, xs = [V.ref p] ∧ (SqL K H p ys ∨ SqT K H p ys) ∧ Q (.int (ys.length : Nat)) H) (tCons ta tNil)) σ H (.int (xs.length : Nat)) := ev_len ha h
theorem ev_abs {i : Int} (h : Ev te σ H (.int i)) : Ev (tCB (fun xs H Q => ∃ i, xs = [V.int i] ∧ Q (.int (if i < 0 then -i else i)) H) (tCons te tNil)) σ H (.int (if i < 0 then -i else i)) := fun H1 e Q q => h H1 e _ fun H2 e2 => ⟨i, rfl, q H2 e2⟩
end
theorem dp_ints {K : PySem.W.Frag} {H : Hp} : ∀ ns : List Int, DpAll K H (ns.map V.int) (ns.map PyData.int)
  | [] => .nil
  | n :: ns => .cons (.int n) (dp_ints ns)
theorem rv_neE {K : PySem.W.Frag} {H : Hp} {l q : Addr} {ns : List Int} (hl : H l = some (.lst (ns.map V.int))) (hq : H q = some (.lst [])) : RV (rNeD K) (.ref l) (.ref q) H (.bl (!PyData.eqv (.list (ns.map PyData.int)) (.list []))) := fun H1 e Q k =>
  ⟨.list (ns.map PyData.int), .list [], .lst (sq_of (e _ _ hl)) (dp_ints ns), .lst (sq_of (e _ _ hq)) .nil, PySem.W.ke_shaped_ints ns, PySem.W.ke_shaped_ints [], k H1 (Ex.refl H1)⟩
theorem eqv_nil (ns : List Int) : PyData.eqv (.list (ns.map PyData.int)) (.list []) = decide (ns = []) := by
  cases ns with
  | nil => simp [PyData.eqv, PyData.eqvAll]
  | cons n ns => simp [PyData.eqv, PyData.eqvAll]
theorem mul_bd {x y A B : Int} (h0 : 0 ≤ x) (h1 : x ≤ A) (h2 : 0 ≤ y) (h3 : y ≤ B) : 0 ≤ x * y ∧ x * y ≤ A * B :=
  ⟨Int.mul_nonneg h0 h2, Int.mul_le_mul h1 h3 h2 (Int.le_trans h0 h1)⟩
theorem s_retPen {te : TE} {σ : L2.St} {H : Hp} {D : Ends} {xs : List V} {x y : V} (h : EvL te σ H xs) (k : ∀ l p H1, H l = none → Ex H H1 → H1 l = some (.lst xs) → H1 p = none → D.rt (.ref p) (upd H1 p (.lst [.ref l, x, y]))) : tRet (tLst (tCons te (tCons (tC x) (tCons (tC y) tNil)))) D σ H :=
  h H (Ex.refl H) _ fun l H1 hl e1 h1 => ⟨by show 3 ≤ sizeLine; decide, fun p hp => k l p H1 hl e1 h1 hp⟩
section
variable {P : Program} {w : World} {K : PySem.W.Frag} {mg : Str → Option Value} {base : Heap} {a : Ads}
theorem ok_pen (T : Txt w K mg a) : FnOk P w K mg base CX0 1 a.f__law_pen a.d__law_pen ["_law_script"] (spPen K) := by
  refine T.fn__law_pen.ok sc__law_pen (fun vs H Q E h => ?_) (fun cdv A outer s H vs Q E hr h => ?_)
  · obtain ⟨_, _, rfl, _⟩ := h
    rfl
  · obtain ⟨sc, ns, rfl, hs, hl, k⟩ := h
    refine ⟨_, (pss_one (ps_ret (pe_lst (pa_cons (pe_callTy call_list_of (by rfl) T.b_list (by decide +kernel) (pa_cons (pe_slice sl_list (pv 0) po_none (po_some pe_int)) pa_nil)) (pa_cons pe_int (pa_cons pe_int pa_nil)))))), ?_⟩
    obtain ⟨ms, e, hm⟩ := cut_ints ns none (some 63)
    refine s_retPen (el_is (el_listN (K := K) (el_sliceL (K := K) (ev_var rfl) eo_none (eo_some ev_c) hs)) e) fun l p H1 hl1 e1 h1 hp => ?_
    have lp : l ≠ p := fun z => by rw [z, hp] at h1; cases h1
    exact k p _ (fresh_back e1 hp) (e1.trans (Ex.new hp)) ⟨l, ms, 0, 0, upd_same, by rw [upd_ne lp]; exact h1, lp, Nat.le_refl 0, Int.le_refl 0, by omega⟩
theorem ok_draw (T : Txt w K mg a) : FnOk P w K mg base CX0 1 a.f__law_draw a.d__law_draw ["_law_pen_here", "_law_many"] spDraw := by
  refine T.fn__law_draw.ok sc__law_draw (fun vs H Q E h => ?_) (fun cdv A outer s H vs Q E hr h => ?_)
  · obtain ⟨_, _, _, rfl, _⟩ := h
    rfl
  · obtain ⟨p, n, m, rfl, ⟨l, ns, at_, rest, hp, hl, lp, hat, hrest, hlen⟩, hn, hm0, hm, k⟩ := h
    refine ⟨_, (pss_cons (ps_if (pt_cmpR op_gt (pe_ix ix_list (pv 0) pe_int (fun _ _ => rfl)) pe_int (nomark _)) (pss_cons (ps_set (i := 2) sc__law_draw.nd rfl (Or.inl rfl) (pe_op op_mod (pe_callTy call_int1 (by rfl) T.b_int (by decide +kernel) (pa_cons (pe_ix ix_list (pv 0) pe_int (fun _ _ => rfl)) pa_nil)) (pv 1)))
    (pss_cons (ps_asg (pe_op op_fdiv (pe_callTy call_int1 (by rfl) T.b_int (by decide +kernel) (pa_cons (pe_ix ix_list (pv 0) pe_int (fun _ _ => rfl)) pa_nil)) (pv 1)) (pg_sub (pv 0) pe_int set_list))
    (pss_one (ps_ret (pv 2))))) pss_nil)
    (pss_cons (ps_set (i := 3) sc__law_draw.nd rfl (Or.inl rfl) (pe_ix ix_list (pv 0) pe_int (fun _ _ => rfl)))
    (pss_cons (ps_asg (pe_op op_add (pv 3) pe_int) (pg_sub (pv 0) pe_int set_list))
    (pss_cons (ps_set (i := 4) sc__law_draw.nd rfl (Or.inl rfl) (pe_op op_add (pe_op op_mul pe_int (pv 3)) pe_int))
    (pss_cons (ps_if (pt_cmpR (op_neD hr.units) (pe_ix ix_list (pv 0) pe_int (fun _ _ => rfl)) (pe_lst pa_nil) (nomark _)) (pss_one (ps_set (i := 4) sc__law_draw.nd rfl (Or.inl rfl) (pe_ix ix_list (pe_ix ix_list (pv 0) pe_int (fun _ _ => rfl)) (pe_op op_mod (pe_callTy call_int1 (by rfl) T.b_int (by decide +kernel) (pa_cons (pv 3) pa_nil)) (pe_callB call_len_seq (by rfl) T.b_len PySem.boot_len (pa_cons (pe_ix ix_list (pv 0) pe_int (fun _ _ => rfl)) pa_nil))) (fun _ _ => rfl)))) pss_nil)
    (pss_cons (ps_if (PW.pt (pw_and (pt_cmpR op_lt (pv 3) (pe_callB call_len_seq (by rfl) T.b_len PySem.boot_len (pa_cons (pe_ix ix_list (pv 0) pe_int (fun _ _ => rfl)) pa_nil)) (nomark _)) (pw_and1 (pt_cmpR op_ge (pe_callB call_abs (by rfl) T.b_abs (by decide +kernel) (pa_cons (pv 4) pa_nil)) (pe_op op_pow pe_int pe_int) (nomark _))))) (pss_cons (ps_set (i := 5) sc__law_draw.nd rfl (Or.inl rfl) (pe_op op_add (pe_op op_mul pe_int (pe_op op_sub (pe_callB call_abs (by rfl) T.b_abs (by decide +kernel) (pa_cons (pv 4) pa_nil)) (pe_op op_pow pe_int pe_int))) (pe_callTy call_int1 (by rfl) T.b_int (by decide +kernel) (pa_cons (pe_cmpR op_lt (pv 4) pe_int (nomark _)) pa_nil))))
    (pss_cons (ps_asg (pe_op op_fdiv (pe_callTy call_int1 (by rfl) T.b_int (by decide +kernel) (pa_cons (pv 5) pa_nil)) (pv 1)) (pg_sub (pv 0) pe_int set_list))
    (pss_one (ps_ret (pe_op op_mod (pe_callTy call_int1 (by rfl) T.b_int (by decide +kernel) (pa_cons (pv 5) pa_nil)) (pv 1)))))) pss_nil)
    (pss_cons (ps_set (i := 6) sc__law_draw.nd rfl (Or.inl rfl) (pe_op op_mod (pe_callTy call_int1 (by rfl) T.b_int (by decide +kernel) (pa_cons (pe_op op_pow (pe_op op_add (pe_op op_add (pe_op op_mod (pe_callTy call_int1 (by rfl) T.b_int (by decide +kernel) (pa_cons (pv 4) pa_nil)) pe_int) (pe_op op_mul pe_int (pv 3))) pe_int) pe_int) pa_nil)) pe_int))
    (pss_cons (ps_set (i := 6) sc__law_draw.nd rfl (Or.inl rfl) (pe_op op_mod (pe_callTy call_int1 (by rfl) T.b_int (by decide +kernel) (pa_cons (pe_op op_pow (pe_op op_add (pe_op op_add (pe_op op_mul (pv 6) (pe_op op_add (pe_op op_mul pe_int (pv 3)) pe_int)) (pe_op op_mul (pe_op op_mul pe_int (pv 3)) (pv 3))) pe_int) pe_int) pa_nil)) pe_int))
    (pss_one (ps_ret (pe_op op_mod (pe_callTy call_int1 (by rfl) T.b_int (by decide +kernel) (pa_cons (pe_op op_fdiv (pv 6) pe_int) pa_nil)) (pv 1)))))))))))), ?_⟩
    have fin : ∀ (H1 H4 : Hp) (x r : Int) (b : Nat), ExB p H H1 → b ≤ n + 1 → 0 ≤ r → Ex (upd H1 p (.lst [.ref l, .int b, .int r])) H4 → 0 ≤ x → x < m → Q (.int x) H4 := fun H1 H4 x r b e1 hb hr0 e4 h0 h1 => by
      have ex : x = (x.toNat : Nat) := by omega
      rw [ex]
      refine k x.toNat _ (by omega) ⟨fun c o hc ne => e4 _ _ (by rw [upd_ne ne]; exact e1 _ _ hc ne), fun l' x' y' q => by
        rw [hp] at q
        cases q
        exact ⟨_, _, e4 _ _ upd_same⟩⟩ ⟨l, ns, b, r, e4 _ _ upd_same, e4 _ _ (by rw [upd_ne lp]; exact e1 _ _ hl lp), lp, hb, hr0, hlen⟩
    have hm1 : (0 : Int) < (m : Int) := by omega
    -- if pen[2] > 0
    refine q_when (b := decide (0 < rest)) (et_test (ev_op (ev_op (ev_var rfl) ev_c (rv_ixL (sq_of hp) rfl)) ev_c rv_I0)) (fun hb H1 e1 => ?_) (fun hb H1 e1 => ?_)
    · have hp1 := e1 _ _ hp
      refine q_asg (v := .int (rest % m)) (ev_op (ev_int (ev_op (ev_var rfl) ev_c (rv_ixL (sq_of hp1) rfl))) (ev_var rfl) (rv_I (by omega))) fun H2 e2 => ?_
      have hp2 := e2 _ _ hp1
      refine q_setL (j := 2) hp2 (v := .int (rest / m)) (ev_op (ev_int (ev_op (ev_var rfl) ev_c (rv_ixL (sq_of hp2) rfl))) (ev_var rfl) (rv_I ⟨by omega, by omega⟩)) (ev_var rfl) ev_c (by show 2 < 3; decide) fun H3 e3 => ?_
      refine s_ret (v := .int (rest % m)) (ev_var rfl) fun H4 e4 => ?_
      exact fin H3 H4 _ _ _ (ExB.of ((e1.trans e2).trans e3)) (Nat.le_succ_of_le hat) (Int.ediv_nonneg hrest (by omega)) e4 (Int.emod_nonneg _ (by omega)) (Int.emod_lt_of_pos _ hm1)
    · have hr0 : rest = 0 := by have := of_decide_eq_false hb; omega
      have hp1 := e1 _ _ hp
      refine q_asg (v := .int at_) (ev_op (ev_var rfl) ev_c (rv_ixL (sq_of hp1) rfl)) fun H2 e2 => ?_
      have hp2 := e2 _ _ hp1
      refine q_setL (j := 1) hp2 (v := .int (at_ + 1)) (by walk_at "ev") (ev_var rfl) ev_c (by show 1 < 3; decide) fun H3 e3 => ?_
      have e03 : Ex H H3 := (e1.trans e2).trans e3
      have hp3 : (upd H3 p (.lst [.ref l, .int (at_ + 1), .int rest])) p = some (.lst [.ref l, .int (at_ + 1), .int rest]) := upd_same
      have hl3 : (upd H3 p (.lst [.ref l, .int (at_ + 1), .int rest])) l = some (.lst (ns.map V.int)) := by rw [upd_ne lp]; exact e03 _ _ hl
      have b03 : ExB p H (upd H3 p (.lst [.ref l, .int (at_ + 1), .int rest])) := fun c o hc ne => by rw [upd_ne ne]; exact e03 _ _ hc
      generalize eK : (upd H3 p (.lst [.ref l, .int (at_ + 1), .int rest])) = K3 at hp3 hl3 b03
      show tSeq _ _ _ _ (upd H3 p (.lst [.ref l, .int (at_ + 1), .int rest]))
      rw [eK]
      -- cell
      refine q_asg (v := .int (50321 * at_ + 389)) (by walk_at "ev"; exact .inl ⟨by decide, by decide⟩) fun H4 e4 => ?_
      have hp4 := e4 _ _ hp3
      have hl4 := e4 _ _ hl3
      obtain ⟨cell, hc1, hc2⟩ : ∃ cell : Int, (ns ≠ [] → atI (ns.map V.int) ((at_ : Int) % ((ns.map V.int).length : Nat)) = some (.int cell)) ∧ (ns = [] → cell = 50321 * at_ + 389) := by
        by_cases hns : ns = []
        · exact ⟨50321 * at_ + 389, fun z => absurd hns z, fun _ => rfl⟩
        · have hpos : 0 < ns.length := List.length_pos_iff.mpr hns
          have hj : at_ % ns.length < ns.length := Nat.mod_lt _ hpos
          refine ⟨ns[at_ % ns.length], fun _ => ?_, fun z => absurd z hns⟩
          rw [List.length_map, show ((at_ : Int) % (ns.length : Nat)) = ((at_ % ns.length : Nat) : Int) by omega]
          exact atI_nat (by simp [hj])
      have hlenZ : ns ≠ [] → (0 : Int) < ((ns.map V.int).length : Nat) := fun hns => by
        have hpos : 0 < ns.length := List.length_pos_iff.mpr hns
        rw [List.length_map]; omega
      refine q_ifAsg (b := !PyData.eqv (.list (ns.map PyData.int)) (.list [])) (v := .int cell) (et_test (ev_opL (ev_op (ev_var rfl) ev_c (rv_ixL (sq_of hp4) rfl)) (el_lst ea_nil (by decide)) fun q H5 hq e5 => rv_neE (e5 _ _ hl4) hq)) (fun hb => ?_) (fun hb => ?_) fun H5 e5 => ?_
      · have hns : ns ≠ [] := fun z => by rw [eqv_nil, z] at hb; cases hb
        refine ev_op (ev_op (ev_var rfl) ev_c (rv_ixL (sq_of hp4) rfl)) (ev_op (ev_int (ev_var rfl)) (ev_lenS (ev_op (ev_var rfl) ev_c (rv_ixL (sq_of hp4) rfl)) (sq_of hl4)) (rv_I (hlenZ hns))) (rv_ixL (sq_of hl4) (hc1 hns))
      · have hns : ns = [] := by
          rw [eqv_nil] at hb
          simpa using hb
        rw [hc2 hns]
        rfl
      have hp5 := e5 _ _ hp4
      have hl5 := e5 _ _ hl4
      -- if at < len(pen[0]) and abs(cell) >= 10 ** 18
      refine q_when (b := decide ((at_ : Int) < ((ns.map V.int).length : Nat)) && decide ((10 : Int) ^ (18 : Int).toNat ≤ (if cell < 0 then -cell else cell))) (et_and (et_test (ev_op (ev_var rfl) (ev_lenS (ev_op (ev_var rfl) ev_c (rv_ixL (sq_of hp5) rfl)) (sq_of hl5)) rv_I0)) fun _ => et_test (ev_op (ev_abs (ev_var rfl)) (ev_op ev_c ev_c (rv_I ⟨by decide, by decide, by decide⟩)) rv_I0)) (fun hb H6 e6 => ?_) (fun hb H6 e6 => ?_)
      · have hge := of_decide_eq_true (Bool.and_eq_true_iff.mp hb).2
        have hp6 := e6 _ _ hp5
        refine q_asg (v := .int (2 * ((if cell < 0 then -cell else cell) - 10 ^ (18 : Int).toNat) + (if decide (cell < 0) = true then 1 else 0))) (ev_op (ev_op ev_c (ev_op (ev_abs (ev_var rfl)) (ev_op ev_c ev_c (rv_I ⟨by decide, by decide, by decide⟩)) rv_I0) (rv_I (.inl ⟨by decide, by decide⟩))) (ev_intB (ev_op (ev_var rfl) ev_c rv_I0)) rv_I0) fun H7 e7 => ?_
        have hg0 : 0 ≤ 2 * ((if cell < 0 then -cell else cell) - 10 ^ (18 : Int).toNat) + (if decide (cell < 0) = true then 1 else 0) := by
          have : (0 : Int) ≤ (if decide (cell < 0) = true then 1 else 0) := by split <;> decide
          omega
        generalize 2 * ((if cell < 0 then -cell else cell) - 10 ^ (18 : Int).toNat) + (if decide (cell < 0) = true then 1 else 0) = great at hg0
        refine q_setL (j := 2) (e7 _ _ hp6) (v := .int (great / m)) (ev_op (ev_int (ev_var rfl)) (ev_var rfl) (rv_I ⟨by omega, by omega⟩)) (ev_var rfl) ev_c (by show 2 < 3; decide) fun H8 e8 => ?_
        refine s_ret (v := .int (great % m)) (ev_op (ev_int (ev_var rfl)) (ev_var rfl) (rv_I hm1)) fun H9 e9 => ?_
        exact fin H8 H9 _ (great / m) (at_ + 1) (b03.trans (ExB.of ((((e4.trans e5).trans e6).trans e7).trans e8))) (by omega) (Int.ediv_nonneg hg0 (by omega)) e9 (Int.emod_nonneg _ (by omega)) (Int.emod_lt_of_pos _ hm1)
      · have hat5 : (at_ : Int) ≤ 100000 := by omega
        have hu0 : 0 ≤ cell % 2147483549 + 60353 * at_ + 389 ∧ cell % 2147483549 + 60353 * at_ + 389 < 18446744073709551616 := by
          have h1 := Int.emod_nonneg cell (show (2147483549 : Int) ≠ 0 by decide)
          have h2 := Int.emod_lt_of_pos cell (show (0 : Int) < 2147483549 by decide)
          omega
        refine q_asg (v := .int ((cell % 2147483549 + 60353 * at_ + 389) ^ (5 : Int).toNat % 2147483629)) (ev_op (ev_int (ev_op (ev_op (ev_op (ev_op (ev_int (ev_var rfl)) ev_c (rv_I (by decide))) (ev_op ev_c (ev_var rfl) (rv_I (.inl ⟨by decide, by decide⟩))) rv_I0) ev_c rv_I0) ev_c (rv_I ⟨by decide, by decide, by omega⟩))) ev_c (rv_I (by decide))) fun H7 e7 => ?_
        have hx0 := Int.emod_nonneg ((cell % 2147483549 + 60353 * at_ + 389) ^ (5 : Int).toNat) (show (2147483629 : Int) ≠ 0 by decide)
        have hx1 := Int.emod_lt_of_pos ((cell % 2147483549 + 60353 * at_ + 389) ^ (5 : Int).toNat) (show (0 : Int) < 2147483629 by decide)
        generalize (cell % 2147483549 + 60353 * at_ + 389) ^ (5 : Int).toNat % 2147483629 = mx at hx0 hx1
        obtain ⟨b1, b2⟩ := mul_bd hx0 (Int.le_of_lt hx1) (y := 2 * at_ + 61) (B := 300000) (by omega) (by omega)
        obtain ⟨b3, b4⟩ := mul_bd (x := 70309 * at_) (A := 8000000000) (y := at_) (B := 100000) (by omega) (by omega) (by omega) hat5
        refine q_asg (v := .int ((mx * (2 * at_ + 61) + 70309 * at_ * at_ + 17) ^ (3 : Int).toNat % 2147483587)) (ev_op (ev_int (ev_op (ev_op (ev_op (ev_op (ev_var rfl) (ev_op (ev_op ev_c (ev_var rfl) (rv_I (.inl ⟨by decide, by decide⟩))) ev_c rv_I0) (rv_I (.inl ⟨by omega, by omega⟩))) (ev_op (ev_op ev_c (ev_var rfl) (rv_I (.inl ⟨by decide, by decide⟩))) (ev_var rfl) (rv_I (.inl ⟨by omega, by omega⟩))) rv_I0) ev_c rv_I0) ev_c (rv_I ⟨by decide, by decide, by omega⟩))) ev_c (rv_I (by decide))) fun H8 e8 => ?_
        refine s_ret (v := .int (((mx * (2 * at_ + 61) + 70309 * at_ * at_ + 17) ^ (3 : Int).toNat % 2147483587) / 32 % m)) (ev_op (ev_int (ev_op (ev_var rfl) ev_c (rv_I ⟨by decide, by decide⟩))) (ev_var rfl) (rv_I hm1)) fun H9 e9 => ?_
        refine fin H3 H9 _ rest (at_ + 1) (ExB.of e03) (by omega) hrest ?_ (Int.emod_nonneg _ (by omega)) (Int.emod_lt_of_pos _ hm1)
        intro c o hc
        exact e9 _ _ (e8 _ _ (e7 _ _ (e6 _ _ (e5 _ _ (e4 _ _ (by rw [← eK]; exact hc))))))
end
end KY
set_option Elab.async false
set_option linter.all false
set_option maxRecDepth 100000
set_option maxHeartbeats 4000000
namespace KY
open PySem PySem.Spec PyProof.Rows L2 Evl
local macro_rules | `(tactic| walk_at "ev") => `(tactic| repeat' (first | exact ev_c | exact ev_var rfl | exact rv_I0 | refine' rv_I ?_ | refine' rv_eq ?_ | refine' rv_ne ?_ | refine' ev_op ?_ ?_ ?_ | exact ea_nil | refine' ea_cons ?_ ?_ | refine' et_test ?_ | refine' et_B ?_ | refine' et_not ?_ | refine' ev_notV ?_))

def spPick : Sp := fun vs H Q _ => ∃ (p s : Addr) (xs : List V) (n : Nat), vs = [.ref p, .ref s] ∧ PenAt H p n ∧ n < 100000 ∧ H s = some (.lst xs) ∧ s ≠ p ∧ 0 < xs.length ∧ xs.length ≤ 1000 ∧ ∀ x H', x ∈ xs → ExP p H H' → PenAt H' p (n + 1) → Q x H'
/-- what moves the pen at p by k, and gives a value of which P -/
def EvP (p : Addr) (te : TE) (σ : L2.St) (k : Nat) (P : V → Prop) : Prop := ∀ (n : Nat) (H : Hp), PenAt H p n → n + k ≤ 100000 → ∀ Q : VK, (∀ v H2, P v → ExP p H H2 → PenAt H2 p (n + k) → Q v H2) → te σ H Q
section
variable {σ : L2.St} {te : TE} {p : Addr} {E : XK}
theorem evp_pickC {i : Nat} {xs : List V} {ta : TA} (hs : σ[i]? = some (some (.ref p))) (hA : ∀ H, EvA ta σ H xs) (h0 : 0 < xs.length) (h1 : xs.length ≤ 1000) : EvP p (tCall spPick [] E (tCons (tVar i) (tCons (tLst ta) tNil))) σ 1 (fun v => v ∈ xs) := fun n H hp hn Q q =>
  ⟨.ref p, hs, hA H H (Ex.refl H) _ fun H1 e1 => ⟨sz_of (by omega), fun s hs1 => by
    obtain ⟨o, ho⟩ := hp.ex
    have sp : s ≠ p := fun z => by rw [z, e1 _ _ ho] at hs1; cases hs1
    have hp1 : PenAt (upd H1 s (.lst xs)) p n := (hp.keep e1).keep (Ex.new hs1)
    exact ⟨p, s, xs, n, rfl, hp1, by omega, upd_same, sp, h0, h1, fun x H2 hx e2 hp2 => q x H2 hx ((ExP.of (e1.trans (Ex.new hs1))).trans e2) hp2⟩⟩⟩
theorem evp_pickV {i j : Nat} {s : Addr} {xs : List V} (hs : σ[i]? = some (some (.ref p))) (hj : σ[j]? = some (some (.ref s))) (sp : s ≠ p) (h0 : 0 < xs.length) (h1 : xs.length ≤ 1000) (n : Nat) (H : Hp) (hp : PenAt H p n) (hn : n + 1 ≤ 100000) (hx : H s = some (.lst xs)) (Q : VK) (q : ∀ v H2, v ∈ xs → ExP p H H2 → PenAt H2 p (n + 1) → Q v H2) :
    tCall spPick [] E (tCons (tVar i) (tCons (tVar j) tNil)) σ H Q := ⟨.ref p, hs, .ref s, hj, p, s, xs, n, rfl, hp, by omega, hx, sp, h0, h1, fun x H2 hx e2 hp2 => q x H2 hx e2 hp2⟩
theorem evp_draw {i : Nat} {m : Nat} (hs : σ[i]? = some (some (.ref p))) (h0 : 0 < m) (h1 : m ≤ 1000) : EvP p (tCall spDraw [] E (tCons (tVar i) (tCons (tC (.int (m : Nat))) tNil))) σ 1 (fun v => ∃ d : Nat, v = .int (d : Nat) ∧ d < m) := fun n H hp hn Q q =>
  ⟨.ref p, hs, p, n, m, rfl, hp, by omega, h0, h1, fun d H2 hd e2 hp2 => q _ H2 ⟨d, rfl, hd⟩ e2 hp2⟩
end
def whoV : List V := [.str "ugo", .str "u", .str "g", .str "o", .str "ug", .str "uo", .str "go"]
def whatV : List V := [.str "r", .str "w", .str "x", .str "X", .str "rX", .str "rwx", .str "rwX", .str "wx", .str "rx", .str "", .str "u", .str "g", .str "o", .str "xX", .str "rwxX"]
def signV : List V := [.str "+", .str "-", .str "="]
theorem whoV_is {v : V} (h : v ∈ whoV) : ∃ s, v = .str s ∧ s ∈ allWho := by
  have h : v ∈ allWho.map V.str := h
  obtain ⟨s, hs, e⟩ := List.mem_map.mp h
  exact ⟨s, e.symm, hs⟩
theorem signV_is {v : V} (h : v ∈ signV) : ∃ s, v = .str s ∧ s ∈ allSign := by
  have h : v ∈ allSign.map V.str := h
  obtain ⟨s, hs, e⟩ := List.mem_map.mp h
  exact ⟨s, e.symm, hs⟩
theorem whatV_is {v : V} (h : v ∈ whatV) : ∃ s, v = .str s ∧ s ∈ allw := by
  have h : v ∈ (["r", "w", "x", "X", "rX", "rwx", "rwX", "wx", "rx", "", "u", "g", "o", "xX", "rwxX"] : List Str).map V.str := h
  obtain ⟨s, hs, e⟩ := List.mem_map.mp h
  have z : ∀ s ∈ (["r", "w", "x", "X", "rX", "rwx", "rwX", "wx", "rx", "", "u", "g", "o", "xX", "rwxX"] : List Str), s ∈ allw := by decide +kernel
  exact ⟨s, e.symm, z s hs⟩
def spLClause : Sp := fun vs H Q _ => ∃ (p : Addr) (n : Nat), vs = [.ref p] ∧ PenAt H p n ∧ n + 3 ≤ 100000 ∧ ∀ (who sign what : Str) t H', who ∈ allWho → sign ∈ allSign → what ∈ allw → ExP p H H' → PenAt H' p (n + 3) → t ≠ p → H t = none → H' t = some (.tup [.str who, .str sign, .str what]) → Q (.ref t) H'
def spLMode : Sp := fun vs H Q _ => ∃ (p : Addr) (n : Nat), vs = [.ref p] ∧ PenAt H p n ∧ n + 4 ≤ 100000 ∧ ∀ (d : Nat) H', d < 512 → ExP p H H' → PenAt H' p (n + 4) → Q (.int d) H'
section
variable {P : Program} {w : World} {K : PySem.W.Frag} {mg : Str → Option Value} {base : Heap} {a : Ads}
theorem ok_pick (T : Txt w K mg a) : FnOk P w K mg base CX0 3 a.f__law_pick a.d__law_pick ["_law_pen_here", "_law_some"] spPick := by
  have G__law_draw : FnOk P w K mg base CX0 1 _ _ _ _ := ok_draw T
  refine T.fn__law_pick.ok sc__law_pick (fun vs H Q E h => ?_) (fun cdv A outer s H vs Q E hr h => ?_)
  · obtain ⟨_, _, _, _, rfl, _⟩ := h
    rfl
  · obtain ⟨p, s, xs, n, rfl, hp, hn, hs, sp, h0, h1, k⟩ := h
    have hrc : Room 1 _ := hr.mono (by decide)
    refine ⟨_, (pss_one (ps_ret (pe_ix ix_list (pv 1) (pe_call G__law_draw hrc rfl T.mg__law_draw T.fn__law_draw.kp (bd__law_draw T) .nil pass0 (pa_cons (pv 0) (pa_cons (pe_callB call_len_seq (by rfl) T.b_len PySem.boot_len (pa_cons (pv 1) pa_nil)) pa_nil))) (fun _ _ => rfl)))), ?_⟩
    refine ⟨.ref s, rfl, .ref p, rfl, .ref s, rfl, s, xs, rfl, .inl (sq_of hs), p, n, xs.length, rfl, hp, hn, h0, h1, fun d H1 hd e1 hp1 => ?_⟩
    exact ⟨s, xs, d, xs[d], rfl, rfl, sq_of (e1.ex _ _ hs sp), atI_nat (by simp [hd]), k _ _ (List.getElem_mem hd) e1 hp1⟩
theorem ok_lclause (T : Txt w K mg a) : FnOk P w K mg base CX0 5 a.f__law_clause a.d__law_clause ["_law_pen_here"] spLClause := by
  have G__law_pick : FnOk P w K mg base CX0 3 _ _ _ _ := ok_pick T
  refine T.fn__law_clause.ok sc__law_clause (fun vs H Q E h => ?_) (fun cdv A outer s H vs Q E hr h => ?_)
  · obtain ⟨_, _, rfl, _⟩ := h
    rfl
  · obtain ⟨p, n, rfl, hp, hn, k⟩ := h
    have hrc : Room 3 _ := hr.mono (by decide)
    refine ⟨_, (pss_cons (ps_set (i := 1) sc__law_clause.nd rfl (Or.inl rfl) (pe_call G__law_pick hrc rfl T.mg__law_pick T.fn__law_pick.kp (bd__law_pick T) .nil pass0 (pa_cons (pv 0) (pa_cons (pe_lst (pa_cons pe_str (pa_cons pe_str (pa_cons pe_str (pa_cons pe_str (pa_cons pe_str (pa_cons pe_str (pa_cons pe_str pa_nil)))))))) pa_nil))))
    (pss_cons (ps_set (i := 2) sc__law_clause.nd rfl (Or.inl rfl) (pe_call G__law_pick hrc rfl T.mg__law_pick T.fn__law_pick.kp (bd__law_pick T) .nil pass0 (pa_cons (pv 0) (pa_cons (pe_lst (pa_cons pe_str (pa_cons pe_str (pa_cons pe_str (pa_cons pe_str (pa_cons pe_str (pa_cons pe_str (pa_cons pe_str (pa_cons pe_str (pa_cons pe_str (pa_cons pe_str (pa_cons pe_str (pa_cons pe_str (pa_cons pe_str (pa_cons pe_str (pa_cons pe_str pa_nil)))))))))))))))) pa_nil))))
    (pss_one (ps_ret (pe_tup (pa_cons (pv 1) (pa_cons (pe_call G__law_pick hrc rfl T.mg__law_pick T.fn__law_pick.kp (bd__law_pick T) .nil pass0 (pa_cons (pv 0) (pa_cons (pe_lst (pa_cons pe_str (pa_cons pe_str (pa_cons pe_str pa_nil)))) pa_nil))) (pa_cons (pv 2) pa_nil)))))))), ?_⟩
    refine evp_pickC (p := p) (xs := whoV) rfl (fun H => by unfold whoV; walk_at "ev") (by decide) (by decide) n H hp (by omega) _ fun v1 H1 hv1 e1 hp1 => ?_
    obtain ⟨who, rfl, hwho⟩ := whoV_is hv1
    refine evp_pickC (p := p) (xs := whatV) rfl (fun H => by unfold whatV; walk_at "ev") (by decide) (by decide) (n + 1) H1 hp1 (by omega) _ fun v2 H2 hv2 e2 hp2 => ?_
    obtain ⟨what, rfl, hwhat⟩ := whatV_is hv2
    refine ⟨_, rfl, ?_⟩
    refine evp_pickC (p := p) (xs := signV) rfl (fun H => by unfold signV; walk_at "ev") (by decide) (by decide) (n + 2) H2 hp2 (by omega) _ fun v3 H3 hv3 e3 hp3 => ?_
    obtain ⟨sign, rfl, hsign⟩ := signV_is hv3
    refine ⟨_, rfl, by show 3 ≤ sizeLine; decide, fun t ht => ?_⟩
    obtain ⟨o, ho⟩ := hp3.ex
    have tp : t ≠ p := fun z => by rw [z, ho] at ht; cases ht
    have b3 : ExP p H H3 := (e1.trans e2).trans e3
    exact k who sign what t _ hwho hsign hwhat (b3.trans (ExP.of (Ex.new ht))) (hp3.keep (Ex.new ht)) tp (by cases q : H t with | none => rfl | some o => rw [b3.ex _ _ q tp] at ht; cases ht) upd_same
end
end KY
set_option Elab.async false
set_option linter.all false
set_option maxRecDepth 100000
set_option maxHeartbeats 4000000
namespace KY
open PySem PySem.Spec PyProof.Rows L2 Evl
local macro_rules | `(tactic| walk_at "ev") => `(tactic| repeat' (first | exact ev_c | exact ev_var rfl | exact rv_I0 | refine' rv_I ?_ | refine' rv_eq ?_ | refine' rv_ne ?_ | refine' ev_op ?_ ?_ ?_ | exact ea_nil | refine' ea_cons ?_ ?_ | refine' et_test ?_ | refine' et_B ?_ | refine' et_not ?_ | refine' ev_notV ?_))

abbrev ky (c : Nat) : Key := Sum.inr (sg c)
def D3 (x y z : V) : List (Key × V) := [(ky 117, x), (ky 103, y), (ky 111, z)]
theorem ky_ne : ky 117 ≠ ky 103 ∧ ky 117 ≠ ky 111 ∧ ky 103 ≠ ky 111 ∧ ky 103 ≠ ky 117 ∧ ky 111 ≠ ky 117 ∧ ky 111 ≠ ky 103 := by decide +kernel
theorem d3_u (x y z : V) : valV (D3 x y z) (ky 117) = some x := valV_pos rfl
theorem d3_g (x y z : V) : valV (D3 x y z) (ky 103) = some y := (valV_neg ky_ne.1).trans (valV_pos rfl)
theorem d3_o (x y z : V) : valV (D3 x y z) (ky 111) = some z := (valV_neg ky_ne.2.1).trans ((valV_neg ky_ne.2.2.1).trans (valV_pos rfl))
theorem d3_no {x y z : V} {k : Key} (h1 : ky 117 ≠ k) (h2 : ky 103 ≠ k) (h3 : ky 111 ≠ k) : valV (D3 x y z) k = none := (valV_neg h1).trans ((valV_neg h2).trans ((valV_neg h3).trans rfl))
theorem put_some {kvs : List (Key × V)} {k : Key} {v y : V} (h : valV kvs k = some y) : putK kvs k v = kvs.map (fun kv => if kv.1 = k then (kv.1, v) else kv) := by
  unfold putK; rw [valV_any, h]; exact if_pos rfl
theorem d3_pu (x y z v : V) : putK (D3 x y z) (ky 117) v = D3 v y z := by
  rw [put_some (d3_u x y z)]
  simp only [D3, List.map_cons, List.map_nil, if_pos, if_neg ky_ne.2.2.2.1, if_neg ky_ne.2.2.2.2.1]
theorem d3_pg (x y z v : V) : putK (D3 x y z) (ky 103) v = D3 x v z := by
  rw [put_some (d3_g x y z)]
  simp only [D3, List.map_cons, List.map_nil, if_pos, if_neg ky_ne.1, if_neg ky_ne.2.2.2.2.2]
theorem d3_po (x y z v : V) : putK (D3 x y z) (ky 111) v = D3 x y v := by
  rw [put_some (d3_o x y z)]
  simp only [D3, List.map_cons, List.map_nil, if_pos, if_neg ky_ne.2.1, if_neg ky_ne.2.2.1]
/-- three different keys, merged -/
theorem merge3 {k1 k2 k3 : Key} {x y z : V} (h1 : k1 ≠ k2) (h2 : k1 ≠ k3) (h3 : k2 ≠ k3) : mergeK [] [(k1, x), (k2, y), (k3, z)] = [(k1, x), (k2, y), (k3, z)] := by
  have e1 : putK [] k1 x = [(k1, x)] := putK_new x rfl
  have e2 : putK [(k1, x)] k2 y = [(k1, x), (k2, y)] := putK_new y ((valV_neg h1).trans rfl)
  have e3 : putK [(k1, x), (k2, y)] k3 z = [(k1, x), (k2, y), (k3, z)] := putK_new z ((valV_neg h2).trans ((valV_neg h3).trans rfl))
  show putK (putK (putK [] k1 x) k2 y) k3 z = _
  rw [e1, e2, e3]
/-- a new dict -/
def EvD (te : TE) (σ : L2.St) (H : Hp) (kvs : List (Key × V)) : Prop := ∀ H1, Ex H H1 → ∀ Q : VK, (∀ p H2, H1 p = none → Ex H1 H2 → H2 p = some (.dK kvs) → Q (.ref p) H2) → te σ H1 Q
section
variable {K : PySem.W.Frag} {σ : L2.St} {H H' : Hp} {ta tb te tx tv : TE} {t u : TT} {x y z v : V} {r : R2} {D : Ends} {tz : TS}
theorem ed_disp3 {s1 s2 s3 : Str} {t1 t2 t3 v1 v2 v3 : TE} (k1 : Ev t1 σ H (.str s1)) (h1 : Ev v1 σ H x) (k2 : Ev t2 σ H (.str s2)) (h2 : Ev v2 σ H y) (k3 : Ev t3 σ H (.str s3)) (h3 : Ev v3 σ H z) (n1 : (Sum.inr s1 : Key) ≠ .inr s2) (n2 : (Sum.inr s1 : Key) ≠ .inr s3) (n3 : (Sum.inr s2 : Key) ≠ .inr s3) :
    EvD (tDisp [(t1, v1), (t2, v2), (t3, v3)]) σ H [(.inr s1, x), (.inr s2, y), (.inr s3, z)] := fun H1 e Q q p hp => by
  have e0 : Ex H (upd H1 p (.dK [])) := e.trans (Ex.new hp)
  refine k1 _ e0 _ fun H2 e2 => h1 H2 (e0.trans e2) _ fun H3 e3 => k2 H3 ((e0.trans e2).trans e3) _ fun H4 e4 => h2 H4 (((e0.trans e2).trans e3).trans e4) _ fun H5 e5 => k3 H5 ((((e0.trans e2).trans e3).trans e4).trans e5) _ fun H6 e6 => h3 H6 (((((e0.trans e2).trans e3).trans e4).trans e5).trans e6) _ fun H7 e7 => ?_
  have e27 : Ex (upd H1 p (.dK [])) H7 := ((((e2.trans e3).trans e4).trans e5).trans e6).trans e7
  refine ⟨e27 _ _ upd_same, [(.inr s1, x), (.inr s2, y), (.inr s3, z)], rfl, by show 3 ≤ 15; decide, ?_⟩
  rw [merge3 n1 n2 n3]
  exact q p _ hp (fun b o hb => by rw [upd_ne (ne_of_none hb hp)]; exact e27 _ _ (Ex.new hp _ _ hb)) upd_same
theorem q_asgD {i : Nat} {kvs : List (Key × V)} (h : EvD te σ H kvs) (k : ∀ p H1, H p = none → Ex H H1 → H1 p = some (.dK kvs) → tz D (σ.set i (some (.ref p))) H1) : tSeq (tAsg te (gName i)) tz D σ H := h H (Ex.refl H) _ fun p H1 hp e h1 => k p H1 hp e h1
theorem ev_dget {d : Addr} {kvs : List (Key × V)} {s : Str} (h : Ev ta σ H (.ref d)) (hk : Ev tb σ H (.str s)) (hd : H d = some (.dK kvs)) (e : valV kvs (.inr s) = some v) : Ev (tDGet ta tb) σ H v := fun H1 e1 Q q =>
  h H1 e1 _ fun H2 e2 => hk H2 (e1.trans e2) _ fun H3 e3 => ⟨d, v, rfl, by rw [← e]; exact DGet.k (k := .inr s) (e3 _ _ (e2 _ _ (e1 _ _ hd))), q H3 (e2.trans e3)⟩
theorem ev_dget2 {d : Addr} {kvs : List (Key × V)} {s : Str} (h : Ev ta σ H (.ref d)) (hk : Ev tb σ H (.str s)) (hx : Ev tx σ H x) (hd : H d = some (.dK kvs)) : Ev (tDGet2 ta tb tx) σ H ((valV kvs (.inr s)).getD x) := fun H1 e1 Q q =>
  h H1 e1 _ fun H2 e2 => ⟨d, rfl, .inl ⟨kvs, .inl (e2 _ _ (e1 _ _ hd))⟩, hk H2 (e1.trans e2) _ fun H3 e3 => hx H3 ((e1.trans e2).trans e3) _ fun H4 e4 => ⟨_, DGet.k (k := .inr s) (e4 _ _ (e3 _ _ (e2 _ _ (e1 _ _ hd)))), q H4 ((e2.trans e3).trans e4)⟩⟩
theorem et_dnotin {d : Addr} {kvs : List (Key × V)} {s : Str} (hk : Ev ta σ H (.str s)) (h : Ev tb σ H (.ref d)) (hd : H d = some (.dK kvs)) : EvT (tB (tDNotIn ta tb)) σ H (!(valV kvs (.inr s)).isSome) := fun H1 e1 Q q =>
  hk H1 e1 _ fun H2 e2 => h H2 (e1.trans e2) _ fun H3 e3 => ⟨d, _, rfl, DGet.k (k := .inr s) (e3 _ _ (e2 _ _ (e1 _ _ hd))), _, rfl, q H3 (e2.trans e3)⟩
theorem ed_copy {d : Addr} {kvs : List (Key × V)} (h : Ev ta σ H (.ref d)) (hd : H d = some (.dK kvs)) : EvD (tCB (fun xs H Q => ∃ (a : Addr) (kvs : List (Key × V)), xs = [V.ref a] ∧ Rd H a (.dK kvs) ∧ ∀ p, H p = none → Q (.ref p) (upd H p (.dK kvs))) (tCons ta tNil)) σ H kvs := fun H1 e1 Q q =>
  h H1 e1 _ fun H2 e2 => ⟨d, kvs, rfl, .inl (e2 _ _ (e1 _ _ hd)), fun p hp => q p _ (fresh_back e2 hp) (e2.trans (Ex.new hp)) upd_same⟩
theorem q_dput {d : Addr} {kvs : List (Key × V)} {s : Str} (hv : Ev tv σ H v) (h : Ev ta σ H (.ref d)) (hk : Ev tb σ H (.str s)) (hd : H d = some (.dK kvs)) (hl : kvs.length < 1000) (k : ∀ H1, Ex H H1 → D.nx σ (upd H1 d (.dK (putK kvs (.inr s) v)))) : sDPut ta tb tv D σ H :=
  hv H (Ex.refl H) _ fun H1 e1 => h H1 e1 _ fun H2 e2 => hk H2 (e1.trans e2) _ fun H3 e3 => ⟨d, _, rfl, DPut.k (k := .inr s) (e3 _ _ (e2 _ _ (e1 _ _ hd))) (small1000 (Nat.le_of_lt hl)), k H3 ((e1.trans e2).trans e3)⟩
/-- over the signs of a text -/
theorem q_forS {s : Str} {j : Nat} {ts : TS} (h : Ev te σ H (.str s)) (Pv : Nat → L2.St → Hp → Prop) (h0 : ∀ H1, Ex H H1 → Pv 0 σ H1)
    (hs : ∀ (i c : Nat) σ' H', s.cps.toList[i]? = some c → Pv i σ' H' → ts { D with nx := Pv (i + 1), ct := Pv (i + 1), bk := tz D } (σ'.set j (some (.str ⟨#[c]⟩))) H') (hd : ∀ σ' H', Pv s.cps.size σ' H' → tz D σ' H') : tSeq (tFor (iStr te) (gName j) ts) tz D σ H :=
  h H (Ex.refl H) _ fun H1 e1 => ⟨s, rfl, fun i m σ' H' => m = s.cps.size - i ∧ i ≤ s.cps.size ∧ Pv i σ' H', ⟨s.cps.size, by simp, Nat.zero_le _, h0 H1 e1⟩, by
    rintro i m σ' H' ⟨rfl, hi, p⟩
    by_cases hlt : i < s.cps.size
    · refine .inr ⟨hlt, Pv (i + 1), fun σ2 H2 p' => ⟨s.cps.size - (i + 1), by omega, rfl, hlt, p'⟩, ?_⟩
      rintro x H2 ⟨rfl, c, hc, rfl⟩
      rw [← Array.getElem?_toList] at hc
      exact hs i c σ' _ hc p
    · have e : i = s.cps.size := by omega
      subst e
      exact .inl ⟨Nat.le_refl _, hd σ' H' p⟩⟩
theorem q_asgTV {p : Addr} {xs : List V} {n : Nat} {tgs : TGs} (h : Ev te σ H (.ref p)) (hx : SqT K H p xs) (hl : xs.length = n) (k : ∀ H1, Ex H H1 → tgs xs σ H1 (tz D)) : tSeq (tAsg te (gTup K n tgs)) tz D σ H :=
  h H (Ex.refl _) _ fun H1 e => ⟨p, xs, rfl, ex_t e hx, hl, k H1 e⟩
end
end KY
set_option Elab.async false
set_option linter.all false
set_option maxRecDepth 100000
set_option maxHeartbeats 4000000
namespace KY
open PySem PySem.Spec PyProof.Rows L2 Evl
local macro_rules | `(tactic| walk_at "ev") => `(tactic| repeat' (first | exact ev_c | exact ev_var rfl | exact rv_I0 | refine' rv_I ?_ | refine' rv_eq ?_ | refine' rv_ne ?_ | refine' ev_op ?_ ?_ ?_ | exact ea_nil | refine' ea_cons ?_ ?_ | refine' et_test ?_ | refine' et_B ?_ | refine' et_not ?_ | refine' ev_notV ?_))

def dgN (n c : Nat) : Nat := if c = 117 then n / 64 else if c = 103 then n / 8 % 8 else n % 8
def gainN (sign : Str) (d m : Nat) : Nat := if sign = "+" then d ||| m else if sign = "-" then d &&& (7 - m) else m
def hasN (what : Str) (c : Nat) : Nat := if decide (c ∈ what.cps.toList) = true then 1 else 0
def baseN (what : Str) : Nat := 4 * hasN what 114 + 2 * hasN what 119 + hasN what 120
def moreB (what : Str) (n : Nat) (form : Str) : Bool := decide (88 ∈ what.cps.toList) && (decide (V.str form = V.str "folder") || decide ((0 : Int) < Builtin.bitAnd (n : Int) 73))
def meantN (what : Str) (n : Nat) (form : Str) : Nat := if what = "u" then dgN n 117 else if what = "g" then dgN n 103 else if what = "o" then dgN n 111 else if moreB what n form = true then baseN what ||| 1 else baseN what
def partN (who sign what : Str) (n : Nat) (form : Str) (c : Nat) : Nat := if c ∈ who.cps.toList then gainN sign (dgN n c) (meantN what n form) else dgN n c
def doneN (who sign what : Str) (n : Nat) (form : Str) : Nat := 64 * partN who sign what n form 117 + 8 * partN who sign what n form 103 + partN who sign what n form 111
theorem dg_lt {n c : Nat} (h : n < 512) : dgN n c < 8 := by unfold dgN; split <;> first | omega | (split <;> omega)
theorem dg_is : ∀ n : Nat, n < 512 → (n : Int) / 2 ^ (6 : Int).toNat = (dgN n 117 : Nat) ∧ Builtin.bitAnd ((n : Int) / 2 ^ (3 : Int).toNat) 7 = (dgN n 103 : Nat) ∧ Builtin.bitAnd (n : Int) 7 = (dgN n 111 : Nat) := by
  have h : ((List.range 512).all fun (n : Nat) => decide ((n : Int) / 2 ^ (6 : Int).toNat = (dgN n 117 : Nat) ∧ Builtin.bitAnd ((n : Int) / 2 ^ (3 : Int).toNat) 7 = (dgN n 103 : Nat) ∧ Builtin.bitAnd (n : Int) 7 = (dgN n 111 : Nat))) = true := by decide +kernel
  exact fun n hn => of_decide_eq_true (all_nat h n hn)
theorem gain_is : ∀ d, d < 8 → ∀ m, m < 8 → Builtin.bitOr (d : Nat) (m : Nat) = ((d ||| m : Nat) : Int) ∧ Builtin.bitAnd (d : Nat) (7 - (m : Nat)) = ((d &&& (7 - m) : Nat) : Int) ∧ (d ||| m) < 8 ∧ (d &&& (7 - m)) < 8 := by
  have h : ((List.range 8).all fun (d : Nat) => (List.range 8).all fun (m : Nat) => decide (Builtin.bitOr (d : Nat) (m : Nat) = ((d ||| m : Nat) : Int) ∧ Builtin.bitAnd (d : Nat) (7 - (m : Nat)) = ((d &&& (7 - m) : Nat) : Int) ∧ (d ||| m) < 8 ∧ (d &&& (7 - m)) < 8)) = true := by decide +kernel
  exact fun d hd m hm => of_decide_eq_true (all_nat (all_nat h d hd) m hm)
theorem has_le (what : Str) (c : Nat) : hasN what c ≤ 1 := by unfold hasN; split <;> decide
theorem base_lt (what : Str) : baseN what < 8 := by
  have := has_le what 114
  have := has_le what 119
  have := has_le what 120
  unfold baseN
  omega
theorem meant_lt {what form : Str} {n : Nat} (h : n < 512) : meantN what n form < 8 := by
  unfold meantN
  split
  · exact dg_lt h
  split
  · exact dg_lt h
  split
  · exact dg_lt h
  split
  · exact (gain_is _ (base_lt what) 1 (by decide)).2.2.1
  · exact base_lt what
theorem gain_lt {sign : Str} {d m : Nat} (hd : d < 8) (hm : m < 8) : gainN sign d m < 8 := by
  obtain ⟨_, _, h1, h2⟩ := gain_is d hd m hm
  unfold gainN
  split
  · exact h1
  split
  · exact h2
  · exact hm
theorem part_lt {who sign what form : Str} {n c : Nat} (h : n < 512) : partN who sign what n form c < 8 := by
  unfold partN
  split
  · exact gain_lt (dg_lt h) (meant_lt h)
  · exact dg_lt h
def spDone (K : PySem.W.Frag) : Sp := fun vs H Q _ => ∃ (t : Addr) (who sign what form : Str) (n : Nat), vs = [.ref t, .int n, .str form] ∧ SqT K H t [.str who, .str sign, .str what] ∧ who ∈ allWho ∧ sign ∈ allSign ∧ what ∈ allw ∧ n < 512 ∧ ∀ H', Ex H H' → Q (.int (doneN who sign what n form : Nat)) H'
def D3f (f : Nat → Nat) : List (Key × V) := D3 (.int (f 117 : Nat)) (.int (f 103 : Nat)) (.int (f 111 : Nat))
theorem d3_at {f : Nat → Nat} {c : Nat} (h : c = 117 ∨ c = 103 ∨ c = 111) : valV (D3f f) (ky c) = some (.int (f c : Nat)) := by
  rcases h with rfl | rfl | rfl
  · exact d3_u _ _ _
  · exact d3_g _ _ _
  · exact d3_o _ _ _
theorem d3_put {f g : Nat → Nat} {c : Nat} {v : Nat} (h : c = 117 ∨ c = 103 ∨ c = 111) (e : ∀ x, g x = if x = c then v else f x) : putK (D3f f) (ky c) (.int (v : Nat)) = D3f g := by
  unfold D3f
  rw [e, e, e]
  rcases h with rfl | rfl | rfl
  · exact d3_pu _ _ _ _
  · exact d3_pg _ _ _ _
  · exact d3_po _ _ _ _
section
variable {K : PySem.W.Frag} {σ : L2.St} {H H' : Hp} {ta tb te tx tv v1 v2 v3 : TE} {t : TT} {x y z v : V} {r : R2} {D : Ends} {tz tu : TS}
theorem q_whenK {b : Bool} {σ' : L2.St} (h : EvT t σ H b) (h1 : b = true → ∀ H1, Ex H H1 → (∀ H2, Ex H1 H2 → tz D σ' H2) → tu { D with nx := tz D } σ H1) (h2 : b = false → σ = σ') (k : ∀ H1, Ex H H1 → tz D σ' H1) : tSeq (tIfS t tu tNext) tz D σ H :=
  q_when h (fun hb H1 e1 => h1 hb H1 e1 fun H2 e2 => k H2 (e1.trans e2)) fun hb H1 e1 => by rw [h2 hb]; exact k H1 e1
theorem ed_D3 (h1 : Ev v1 σ H x) (h2 : Ev v2 σ H y) (h3 : Ev v3 σ H z) : EvD (tDisp [(tC (.str "u"), v1), (tC (.str "g"), v2), (tC (.str "o"), v3)]) σ H (D3 x y z) := by
  have := ed_disp3 (s1 := "u") (s2 := "g") (s3 := "o") ev_c h1 ev_c h2 ev_c h3 (by decide +kernel) (by decide +kernel) (by decide +kernel)
  show EvD _ σ H [(.inr (sg 117), x), (.inr (sg 103), y), (.inr (sg 111), z)]
  rw [show sg 117 = ("u" : Str) from u_is.1.symm, show sg 103 = ("g" : Str) from u_is.2.1.symm, show sg 111 = ("o" : Str) from u_is.2.2.symm]
  exact this
end
def G3 (x y z : V) : List (Key × V) := [(.inr "+", x), (.inr "-", y), (.inr "=", z)]
theorem g3_at {sign : Str} {d m : Nat} (h : sign ∈ allSign) : valV (G3 (.int ((d ||| m : Nat))) (.int (d &&& (7 - m) : Nat)) (.int (m : Nat))) (.inr sign) = some (.int (gainN sign d m : Nat)) := by
  have n1 : (Sum.inr ("+" : Str) : Key) ≠ .inr ("-" : Str) ∧ (Sum.inr ("+" : Str) : Key) ≠ .inr ("=" : Str) ∧ (Sum.inr ("-" : Str) : Key) ≠ .inr ("=" : Str) ∧ ("-" : Str) ≠ "+" ∧ ("=" : Str) ≠ "+" ∧ ("=" : Str) ≠ "-" := by decide +kernel
  unfold gainN
  rcases List.mem_cons.mp h with rfl | h
  · rw [if_pos rfl]; exact valV_pos rfl
  rcases List.mem_cons.mp h with rfl | h
  · rw [if_neg n1.2.2.2.1, if_pos rfl]; exact (valV_neg n1.1).trans (valV_pos rfl)
  rcases List.mem_cons.mp h with rfl | h
  · rw [if_neg n1.2.2.2.2.1, if_neg n1.2.2.2.2.2]; exact (valV_neg n1.2.1).trans ((valV_neg n1.2.2.1).trans (valV_pos rfl))
  · cases h
/-- digits, asked by what -/
theorem d3_what {what : Str} {f : Nat → Nat} (h : what ∈ allw) : (∃ c, (c = 117 ∨ c = 103 ∨ c = 111) ∧ what = sg c) ∨ (what ∈ whats ∧ valV (D3f f) (.inr what) = none) := by
  rcases List.mem_cons.mp h with rfl | h
  · exact .inl ⟨117, .inl rfl, u_is.1⟩
  rcases List.mem_cons.mp h with rfl | h
  · exact .inl ⟨103, .inr (.inl rfl), u_is.2.1⟩
  rcases List.mem_cons.mp h with rfl | h
  · exact .inl ⟨111, .inr (.inr rfl), u_is.2.2⟩
  refine .inr ⟨h, d3_no (fun z => not_u.1 ?_) (fun z => not_u.2.1 ?_) (fun z => not_u.2.2.1 ?_)⟩
  · rw [u_is.1, show (⟨#[117]⟩ : Str) = what from Sum.inr.inj z]; exact h
  · rw [u_is.2.1, show (⟨#[103]⟩ : Str) = what from Sum.inr.inj z]; exact h
  · rw [u_is.2.2, show (⟨#[111]⟩ : Str) = what from Sum.inr.inj z]; exact h
theorem meant_dg {c n : Nat} {form : Str} (h : c = 117 ∨ c = 103 ∨ c = 111) : meantN (sg c) n form = dgN n c := by
  unfold meantN
  rw [show ("u" : Str) = sg 117 from u_is.1, show ("g" : Str) = sg 103 from u_is.2.1, show ("o" : Str) = sg 111 from u_is.2.2]
  rcases h with rfl | rfl | rfl
  · rw [if_pos rfl]
  · rw [if_neg (by decide +kernel), if_pos rfl]
  · rw [if_neg (by decide +kernel), if_neg (by decide +kernel), if_pos rfl]
theorem meant_wh {what form : Str} {n : Nat} (h : what ∈ whats) : meantN what n form = if moreB what n form = true then baseN what ||| 1 else baseN what := by
  unfold meantN
  rw [if_neg (fun z => not_u.1 (by rw [← z]; exact h)), if_neg (fun z => not_u.2.1 (by rw [← z]; exact h)), if_neg (fun z => not_u.2.2.1 (by rw [← z]; exact h))]
end KY
set_option Elab.async false
set_option linter.all false
set_option maxRecDepth 100000
set_option maxHeartbeats 4000000
namespace KY
open PySem PySem.Spec PyProof.Rows L2 Evl
local macro_rules | `(tactic| walk_at "ev") => `(tactic| repeat' (first | exact ev_c | exact ev_var rfl | exact rv_I0 | refine' rv_I ?_ | refine' rv_eq ?_ | refine' rv_ne ?_ | refine' ev_op ?_ ?_ ?_ | exact ea_nil | refine' ea_cons ?_ ?_ | refine' et_test ?_ | refine' et_B ?_ | refine' et_not ?_ | refine' ev_notV ?_))

section
variable {P : Program} {w : World} {K : PySem.W.Frag} {mg : Str → Option Value} {base : Heap} {a : Ads}
theorem ok_done (T : Txt w K mg a) : FnOk P w K mg base CX0 1 a.f__law_clause_done a.d__law_clause_done ["_law_told", "_law_number", "_law_form"] (spDone K) := by
  refine T.fn__law_clause_done.ok sc__law_clause_done (fun vs H Q E h => ?_) (fun cdv A outer s H vs Q E hr h => ?_)
  · obtain ⟨_, _, _, _, _, _, rfl, _⟩ := h
    rfl
  · obtain ⟨t, who, sign, what, form, n, rfl, ht, hwho, hsign, hwhat, hn, k⟩ := h
    have hu := hu_of hr
    refine ⟨_, (pss_cons (ps_asg (pv 0) (pg_tup rfl (pgs_cons (pg_name (i := 3) sc__law_clause_done.nd rfl (Or.inl rfl)) (pgs_cons (pg_name (i := 4) sc__law_clause_done.nd rfl (Or.inl rfl)) (pgs_cons (pg_name (i := 5) sc__law_clause_done.nd rfl (Or.inl rfl)) pgs_nil)))))
    (pss_cons (ps_set (i := 6) sc__law_clause_done.nd rfl (Or.inl rfl) (pe_disp (pps_cons pe_str (pe_op op_shr (pv 1) pe_int) (pps_cons pe_str (pe_op op_and (pe_op op_shr (pv 1) pe_int) pe_int) (pps_cons pe_str (pe_op op_and (pv 1) pe_int) pps_nil))) (by rfl) (by rfl) (fun z => by cases z) (by decide)))
    (pss_cons (ps_set (i := 7) sc__law_clause_done.nd rfl (Or.inl rfl) (pe_dget2 hu (pv 6) (pv 5) pe_int ⟨by rfl, by rfl, by rfl, by rfl⟩))
    (pss_cons (ps_if (pt_cmp (pc_dnotin hu (pv 5) (pv 6))) (pss_cons (ps_set (i := 7) sc__law_clause_done.nd rfl (Or.inl rfl) (pe_op op_add (pe_op op_add (pe_op op_mul pe_int (pe_callTy call_int1 (by rfl) T.b_int (by decide +kernel) (pa_cons (pe_cmpR op_in_sign pe_str (pv 5) (by rfl)) pa_nil))) (pe_op op_mul pe_int (pe_callTy call_int1 (by rfl) T.b_int (by decide +kernel) (pa_cons (pe_cmpR op_in_sign pe_str (pv 5) (by rfl)) pa_nil)))) (pe_callTy call_int1 (by rfl) T.b_int (by decide +kernel) (pa_cons (pe_cmpR op_in_sign pe_str (pv 5) (by rfl)) pa_nil))))
    (pss_one (ps_if (PW.pt (pw_and (pt_cmpR op_in_sign pe_str (pv 5) (by rfl)) (pw_and1 (PW.pt (pw_or (pt_cmpR op_eq (pv 2) pe_str (nomark _)) (pw_or1 (pt_cmpR op_gt (pe_op op_and (pv 1) pe_int) pe_int (nomark _)))))))) (pss_one (ps_set (i := 7) sc__law_clause_done.nd rfl (Or.inl rfl) (pe_op op_or (pv 7) pe_int))) pss_nil))) pss_nil)
    (pss_cons (ps_set (i := 8) sc__law_clause_done.nd rfl (Or.inl rfl) (pe_callTy call_dictD (by rfl) T.b_dict (by decide +kernel) (pa_cons (pv 6) pa_nil)))
    (pss_cons (ps_for PassesOwn.never rfl (pi_str (pv 3)) (pg_name (i := 9) sc__law_clause_done.nd rfl (Or.inl rfl)) (pss_cons (ps_set (i := 10) sc__law_clause_done.nd rfl (Or.inl rfl) (pe_disp (pps_cons pe_str (pe_op op_or (pe_dget hu (pv 6) (pv 9) (fun _ _ => rfl)) (pv 7)) (pps_cons pe_str (pe_op op_and (pe_dget hu (pv 6) (pv 9) (fun _ _ => rfl)) (pe_op op_sub pe_int (pv 7))) (pps_cons pe_str (pv 7) pps_nil))) (by rfl) (by rfl) (fun z => by cases z) (by decide)))
    (pss_one (ps_dput hu (pv 8) (pv 9) (pe_dget hu (pv 10) (pv 4) (fun _ _ => rfl)) rfl))))
    (pss_one (ps_ret (pe_op op_add (pe_op op_add (pe_op op_mul pe_int (pe_dget hu (pv 8) pe_str (fun _ _ => rfl))) (pe_op op_mul pe_int (pe_dget hu (pv 8) pe_str (fun _ _ => rfl)))) (pe_dget hu (pv 8) pe_str (fun _ _ => rfl))))))))))), ?_⟩
    obtain ⟨du, dg, d_o⟩ := dg_is n hn
    refine q_asgTV (ev_var rfl) ht rfl fun H1 e1 => ⟨_, _, rfl, _, _, rfl, _, _, rfl, rfl, ?_⟩
    refine q_asgD (kvs := D3f (dgN n)) (ed_D3 (ev_is (ev_op (ev_var rfl) ev_c (rv_I (by decide))) (congrArg V.int du)) (ev_is (ev_op (ev_op (ev_var rfl) ev_c (rv_I (by decide))) ev_c rv_I0) (congrArg V.int dg)) (ev_is (ev_op (ev_var rfl) ev_c rv_I0) (congrArg V.int d_o))) fun pd H2 hpd e2 hd2 => ?_
    refine q_asg (ev_dget2 (ev_var rfl) (ev_var rfl) ev_c hd2) fun H3 e3 => ?_
    have hd3 := e3 _ _ hd2
    have m8 := meant_lt (what := what) (form := form) hn
    refine q_whenK (b := !(valV (D3f (dgN n)) (.inr what)).isSome) (σ' := [some (.ref t), some (.int n), some (.str form), some (.str who), some (.str sign), some (.str what), some (.ref pd), some (.int (meantN what n form : Nat)), none, none, none]) (et_dnotin (ev_var rfl) (ev_var rfl) hd3) (fun hb H4 e4 k4 => ?_) (fun hb => ?_) (fun H4 e4 => ?_)
    · have hwh : what ∈ whats := by
        rcases d3_what (f := dgN n) hwhat with ⟨c, hc, rfl⟩ | ⟨h, _⟩
        · rw [show (Sum.inr (sg c) : Key) = ky c from rfl, d3_at hc] at hb; cases hb
        · exact h
      have has : ∀ (c : Nat) (s : Str) (σ : L2.St) (H : Hp), s = sg c → σ[5]? = some (some (.str what)) → Ev (tCB (fun xs H Q => (∃ i, xs = [V.int i] ∧ Q (.int i) H) ∨ ∃ k, xs = [V.bl k] ∧ Q (.int (if k then 1 else 0)) H) (tCons (tOp (fun x y H Q => ∃ (c : Nat) (z : Str), x = .str ⟨#[c]⟩ ∧ y = .str z ∧ Q (.bl (decide (c ∈ z.cps.toList))) H) (tC (.str s)) (tVar 5)) tNil)) σ H (.int (hasN what c : Nat)) := fun c s σ H hs h5 =>
        ev_is (ev_intB (ev_op (ev_is ev_c (congrArg V.str hs)) (ev_var h5) rv_inS)) (by unfold hasN; cases decide (c ∈ what.cps.toList) <;> rfl)
      refine q_asg (v := .int (baseN what : Nat)) (ev_is (ev_op (ev_op (ev_op ev_c (has 114 _ _ _ letters_are.1 rfl) (rv_I (.inl ⟨by decide, by decide⟩))) (ev_op ev_c (has 119 _ _ _ letters_are.2.1 rfl) (rv_I (.inl ⟨by decide, by decide⟩))) rv_I0) (has 120 _ _ _ letters_are.2.2 rfl) rv_I0) ?_) fun H5 e5 => ?_
      · congr 1
      refine s_ifAsg (b := moreB what n form) (v := .int (meantN what n form : Nat)) (et_and (et_test (ev_op (ev_is ev_c (congrArg V.str X_is)) (ev_var rfl) rv_inS)) fun _ => et_or (et_test (ev_op (ev_var rfl) ev_c (rv_eq rfl))) fun _ => et_test (ev_op (ev_op (ev_var rfl) ev_c rv_I0) ev_c rv_I0)) (fun hm => ?_) (fun hm => ?_) fun H6 e6 => k4 H6 (e5.trans e6)
      · refine ev_is (ev_op (ev_var rfl) ev_c rv_I0) ?_
        rw [meant_wh hwh, if_pos hm]
        exact congrArg V.int (gain_is _ (base_lt what) 1 (by decide)).1
      · rw [meant_wh hwh, if_neg (by rw [hm]; decide)]
        rfl
    · rcases d3_what (f := dgN n) hwhat with ⟨c, hc, rfl⟩ | ⟨_, h⟩
      · rw [show (Sum.inr (sg c) : Key) = ky c from rfl, d3_at hc, meant_dg hc]
        rfl
      · rw [h] at hb; cases hb
    · have hd4 := e4 _ _ hd3
      refine q_asgD (ed_copy (ev_var rfl) hd4) fun pl H5 hpl e5 hl5 => ?_
      have hd5 := e5 _ _ hd4
      have e04 : Ex H H4 := ((e1.trans e2).trans e3).trans e4
      have hplH : H pl = none := fresh_back e04 hpl
      have dl : pd ≠ pl := fun z => by rw [z, hpl] at hd4; cases hd4
      refine q_forS (ev_var rfl) (fun i σ' H' => ∃ lt gn, σ' = [some (.ref t), some (.int n), some (.str form), some (.str who), some (.str sign), some (.str what), some (.ref pd), some (.int (meantN what n form : Nat)), some (.ref pl), lt, gn] ∧ H' pd = some (.dK (D3f (dgN n))) ∧ H' pl = some (.dK (D3f fun c => if c ∈ who.cps.toList.take i then gainN sign (dgN n c) (meantN what n form) else dgN n c)) ∧ Ex H H')
        (fun H6 e6 => ⟨none, none, rfl, e6 _ _ hd5, e6 _ _ hl5, (e04.trans e5).trans e6⟩) (fun i c σ' H' hi p => ?_) (fun σ' H' p => ?_)
      · obtain ⟨lt, gn, rfl, h1, h2, h3⟩ := p
        have hc : c = 117 ∨ c = 103 ∨ c = 111 := (who_ok who hwho).1 c (List.mem_of_getElem? hi)
        obtain ⟨g1, g2, g3, g4⟩ := gain_is (dgN n c) (dg_lt hn) (meantN what n form) m8
        refine q_asgD (kvs := G3 (.int ((dgN n c ||| meantN what n form : Nat))) (.int (dgN n c &&& (7 - meantN what n form) : Nat)) (.int (meantN what n form : Nat))) (ed_disp3 ev_c (ev_is (ev_op (ev_dget (ev_var rfl) (ev_var rfl) h1 (d3_at hc)) (ev_var rfl) rv_I0) (congrArg V.int g1)) ev_c (ev_is (ev_op (ev_dget (ev_var rfl) (ev_var rfl) h1 (d3_at hc)) (ev_op ev_c (ev_var rfl) rv_I0) rv_I0) (congrArg V.int g2)) ev_c (ev_var rfl) (by decide +kernel) (by decide +kernel) (by decide +kernel)) fun pg H6 hpg e6 hg6 => ?_
        refine q_dput (v := .int (gainN sign (dgN n c) (meantN what n form) : Nat)) (ev_dget (ev_var rfl) (ev_var rfl) hg6 (g3_at hsign)) (ev_var rfl) (ev_var rfl) (e6 _ _ h2) (by show 3 < 1000; decide) fun H7 e7 => ?_
        refine ⟨_, _, rfl, by rw [upd_ne dl]; exact e7 _ _ (e6 _ _ h1), ?_, Ex.mut ((h3.trans e6).trans e7) hplH⟩
        rw [upd_same]
        refine congrArg (fun z => some (HO.dK z)) (d3_put hc fun x => ?_)
        rw [show who.cps.toList.take (i + 1) = who.cps.toList.take i ++ [c] by rw [List.take_succ, hi]; rfl]
        by_cases hx : x = c
        · subst hx
          rw [if_pos (List.mem_append_right _ (List.mem_singleton.mpr rfl)), if_pos rfl]
        · rw [if_neg hx]
          by_cases hy : x ∈ who.cps.toList.take i
          · rw [if_pos hy, if_pos (List.mem_append_left _ hy)]
          · rw [if_neg hy, if_neg (fun z => by
              rcases List.mem_append.mp z with z | z
              · exact hy z
              · exact hx (List.mem_singleton.mp z))]
      · obtain ⟨lt, gn, rfl, h1, h2, h3⟩ := p
        have h2 : H' pl = some (.dK (D3f fun c => partN who sign what n form c)) := by
          rw [show who.cps.toList.take who.cps.size = who.cps.toList from List.take_of_length_le (by simp)] at h2
          exact h2
        have get : ∀ (c : Nat) (s : Str) (hc : c = 117 ∨ c = 103 ∨ c = 111), s = sg c → Ev (tDGet (tVar 8) (tC (.str s))) [some (.ref t), some (.int n), some (.str form), some (.str who), some (.str sign), some (.str what), some (.ref pd), some (.int (meantN what n form : Nat)), some (.ref pl), lt, gn] H' (.int (partN who sign what n form c : Nat)) := fun c s hc hs =>
          ev_dget (ev_var rfl) (ev_is ev_c (congrArg V.str hs)) h2 (d3_at (f := fun c => partN who sign what n form c) hc)
        refine s_ret (v := .int (doneN who sign what n form : Nat)) (ev_is (ev_op (ev_op (ev_op ev_c (get 117 _ (.inl rfl) u_is.1) (rv_I (.inl ⟨by decide, by decide⟩))) (ev_op ev_c (get 103 _ (.inr (.inl rfl)) u_is.2.1) (rv_I (.inl ⟨by decide, by decide⟩))) rv_I0) (get 111 _ (.inr (.inr rfl)) u_is.2.2) rv_I0) ?_) fun H8 e8 => k H8 (h3.trans e8)
        congr 1
end
end KY
set_option Elab.async false
set_option linter.all false
set_option maxRecDepth 100000
set_option maxHeartbeats 4000000
namespace KY
open PySem PySem.Spec PyProof.Rows L2 Evl
local macro_rules | `(tactic| walk_at "ev") => `(tactic| repeat' (first | exact ev_c | exact ev_var rfl | exact rv_I0 | refine' rv_I ?_ | refine' rv_eq ?_ | refine' rv_ne ?_ | refine' ev_op ?_ ?_ ?_ | exact ea_nil | refine' ea_cons ?_ ?_ | refine' et_test ?_ | refine' et_B ?_ | refine' et_not ?_ | refine' ev_notV ?_))

def g1 (sign : Str) (b A : Nat) : Nat := if sign = "+" then b ||| A else if sign = "-" then b &&& (1 - A) else A
theorem or_sum : ∀ p0, p0 < 8 → ∀ p1, p1 < 8 → ∀ p2, p2 < 8 → Builtin.bitOr (Builtin.bitOr (bitsN p0 4 : Nat) (bitsN p1 2 : Nat)) (bitsN p2 1 : Nat) = ((bitsN p0 4 + bitsN p1 2 + bitsN p2 1 : Nat) : Int) := by
  have h : ((List.range 8).all fun (p0 : Nat) => (List.range 8).all fun (p1 : Nat) => (List.range 8).all fun (p2 : Nat) => decide (Builtin.bitOr (Builtin.bitOr (bitsN p0 4 : Nat) (bitsN p1 2 : Nat)) (bitsN p2 1 : Nat) = ((bitsN p0 4 + bitsN p1 2 + bitsN p2 1 : Nat) : Int))) = true := by decide +kernel
  exact fun p0 h0 p1 h1 p2 h2 => of_decide_eq_true (all_nat (all_nat (all_nat h p0 h0) p1 h1) p2 h2)
def pbN (mask : Nat) (sign : Str) (A : Bool) (p : Nat) : Nat := (pbI (mask : Nat) sign A p).toNat
theorem pb_bits : ∀ sign ∈ allSign, ∀ mask, mask < 8 → ∀ p, p < 8 → ∀ A : Bool, pbN mask sign A p / 4 % 2 = (if mask / 4 % 2 = 1 then g1 sign (p / 4 % 2) A.toNat else p / 4 % 2) ∧ pbN mask sign A p / 2 % 2 = (if mask / 2 % 2 = 1 then g1 sign (p / 2 % 2) A.toNat else p / 2 % 2) ∧ pbN mask sign A p % 2 = (if mask % 2 = 1 then g1 sign (p % 2) A.toNat else p % 2) := by
  have h : ∀ sign ∈ allSign, ((List.range 8).all fun (mask : Nat) => (List.range 8).all fun (p : Nat) => [true, false].all fun A => decide (pbN mask sign A p / 4 % 2 = (if mask / 4 % 2 = 1 then g1 sign (p / 4 % 2) A.toNat else p / 4 % 2) ∧ pbN mask sign A p / 2 % 2 = (if mask / 2 % 2 = 1 then g1 sign (p / 2 % 2) A.toNat else p / 2 % 2) ∧ pbN mask sign A p % 2 = (if mask % 2 = 1 then g1 sign (p % 2) A.toNat else p % 2))) = true := by decide +kernel
  intro sign hs mask hm p hp A
  exact of_decide_eq_true (List.all_eq_true.mp (all_nat (all_nat (h sign hs) mask hm) p hp) A (by cases A <;> simp))
theorem gain_bits : ∀ sign ∈ allSign, ∀ d, d < 8 → ∀ m, m < 8 → gainN sign d m = 4 * g1 sign (d / 4 % 2) (m / 4 % 2) + 2 * g1 sign (d / 2 % 2) (m / 2 % 2) + g1 sign (d % 2) (m % 2) := by
  have h : ∀ sign ∈ allSign, ((List.range 8).all fun (d : Nat) => (List.range 8).all fun (m : Nat) => decide (gainN sign d m = 4 * g1 sign (d / 4 % 2) (m / 4 % 2) + 2 * g1 sign (d / 2 % 2) (m / 2 % 2) + g1 sign (d % 2) (m % 2))) = true := by decide +kernel
  exact fun sign hs d hd m hm => of_decide_eq_true (all_nat (all_nat (h sign hs) d hd) m hm)
theorem mask_bits : ∀ who ∈ allWho, (maskN who / 4 % 2 = 1 ↔ 117 ∈ who.cps.toList) ∧ (maskN who / 2 % 2 = 1 ↔ 103 ∈ who.cps.toList) ∧ (maskN who % 2 = 1 ↔ 111 ∈ who.cps.toList) := by decide +kernel
theorem pat_bits {n w : Nat} : patN n w / 4 % 2 = n / w / 64 % 2 ∧ patN n w / 2 % 2 = n / w / 8 % 2 ∧ patN n w % 2 = n / w % 2 := by
  unfold patN
  have h1 := Nat.mod_lt (n / w / 64) (show 0 < 2 by decide)
  have h2 := Nat.mod_lt (n / w / 8) (show 0 < 2 by decide)
  have h3 := Nat.mod_lt (n / w) (show 0 < 2 by decide)
  generalize n / w / 64 % 2 = a at *
  generalize n / w / 8 % 2 = b at *
  generalize n / w % 2 = c at *
  omega
theorem dg_bits : ∀ n : Nat, n < 512 → (dgN n 117 / 4 % 2 = n / 4 / 64 % 2 ∧ dgN n 117 / 2 % 2 = n / 2 / 64 % 2 ∧ dgN n 117 % 2 = n / 1 / 64 % 2) ∧ (dgN n 103 / 4 % 2 = n / 4 / 8 % 2 ∧ dgN n 103 / 2 % 2 = n / 2 / 8 % 2 ∧ dgN n 103 % 2 = n / 1 / 8 % 2) ∧ (dgN n 111 / 4 % 2 = n / 4 % 2 ∧ dgN n 111 / 2 % 2 = n / 2 % 2 ∧ dgN n 111 % 2 = n / 1 % 2) ∧ dgN n 117 = 4 * (n / 4 / 64 % 2) + 2 * (n / 2 / 64 % 2) + n / 1 / 64 % 2 ∧ dgN n 103 = 4 * (n / 4 / 8 % 2) + 2 * (n / 2 / 8 % 2) + n / 1 / 8 % 2 ∧ dgN n 111 = 4 * (n / 4 % 2) + 2 * (n / 2 % 2) + n / 1 % 2 := by
  have h : ((List.range 512).all fun (n : Nat) => decide ((dgN n 117 / 4 % 2 = n / 4 / 64 % 2 ∧ dgN n 117 / 2 % 2 = n / 2 / 64 % 2 ∧ dgN n 117 % 2 = n / 1 / 64 % 2) ∧ (dgN n 103 / 4 % 2 = n / 4 / 8 % 2 ∧ dgN n 103 / 2 % 2 = n / 2 / 8 % 2 ∧ dgN n 103 % 2 = n / 1 / 8 % 2) ∧ (dgN n 111 / 4 % 2 = n / 4 % 2 ∧ dgN n 111 / 2 % 2 = n / 2 % 2 ∧ dgN n 111 % 2 = n / 1 % 2) ∧ dgN n 117 = 4 * (n / 4 / 64 % 2) + 2 * (n / 2 / 64 % 2) + n / 1 / 64 % 2 ∧ dgN n 103 = 4 * (n / 4 / 8 % 2) + 2 * (n / 2 / 8 % 2) + n / 1 / 8 % 2 ∧ dgN n 111 = 4 * (n / 4 % 2) + 2 * (n / 2 % 2) + n / 1 % 2)) = true := by decide +kernel
  exact fun n hn => of_decide_eq_true (all_nat h n hn)
theorem cls_bit : ∀ p : Nat, p < 8 → (!decide (V.int (Builtin.bitAnd (p : Nat) 4) = V.int 0)).toNat = p / 4 % 2 ∧ (!decide (V.int (Builtin.bitAnd (p : Nat) 2) = V.int 0)).toNat = p / 2 % 2 ∧ (!decide (V.int (Builtin.bitAnd (p : Nat) 1) = V.int 0)).toNat = p % 2 := by
  have h : ((List.range 8).all fun (p : Nat) => decide ((!decide (V.int (Builtin.bitAnd (p : Nat) 4) = V.int 0)).toNat = p / 4 % 2 ∧ (!decide (V.int (Builtin.bitAnd (p : Nat) 2) = V.int 0)).toNat = p / 2 % 2 ∧ (!decide (V.int (Builtin.bitAnd (p : Nat) 1) = V.int 0)).toNat = p % 2)) = true := by decide +kernel
  exact fun p hp => of_decide_eq_true (all_nat h p hp)
theorem any_x : ∀ n : Nat, n < 512 → (!decide (V.int (patN n 1 : Nat) = V.int 0)) = decide ((0 : Int) < Builtin.bitAnd (n : Nat) 73) := by
  have h : ((List.range 512).all fun (n : Nat) => decide ((!decide (V.int (patN n 1 : Nat) = V.int 0)) = decide ((0 : Int) < Builtin.bitAnd (n : Nat) 73))) = true := by decide +kernel
  exact fun n hn => of_decide_eq_true (all_nat h n hn)
theorem or1_bits : ∀ b, b < 8 → (b ||| 1) / 4 % 2 = b / 4 % 2 ∧ (b ||| 1) / 2 % 2 = b / 2 % 2 ∧ (b ||| 1) % 2 = 1 := by
  have h : ((List.range 8).all fun (b : Nat) => decide ((b ||| 1) / 4 % 2 = b / 4 % 2 ∧ (b ||| 1) / 2 % 2 = b / 2 % 2 ∧ (b ||| 1) % 2 = 1)) = true := by decide +kernel
  exact fun b hb => of_decide_eq_true (all_nat h b hb)
theorem base_bits (what : Str) : baseN what / 4 % 2 = hasN what 114 ∧ baseN what / 2 % 2 = hasN what 119 ∧ baseN what % 2 = hasN what 120 := by
  have := has_le what 114
  have := has_le what 119
  have := has_le what 120
  unfold baseN
  omega
theorem no_x : decide (V.str (sg 114) = V.str "x") = false ∧ decide (V.str (sg 119) = V.str "x") = false ∧ decide (V.str (sg 120) = V.str "x") = true := by decide +kernel
theorem meantB_wh {what form : Str} {c p : Nat} (hw : what ∈ whats) : meantB what c p form = if c ∈ what.cps.toList then true else (decide (V.str (sg c) = V.str "x") && (decide (88 ∈ what.cps.toList) && (decide (V.str form = V.str "folder") || !decide (V.int (p : Nat) = V.int 0)))) := by
  unfold meantB
  rw [if_neg (fun z => not_u.1 (by rw [← z]; exact hw)), if_neg (fun z => not_u.2.1 (by rw [← z]; exact hw)), if_neg (fun z => not_u.2.2.1 (by rw [← z]; exact hw))]
/-- the bits of what is meant -/
theorem meant_bits {what form f0 f1 : Str} {n : Nat} (hw : what ∈ allw) (hn : n < 512) : meantN what n form / 4 % 2 = (meantB what 114 (patN n 4) f0).toNat ∧ meantN what n form / 2 % 2 = (meantB what 119 (patN n 2) f1).toNat ∧ meantN what n form % 2 = (meantB what 120 (patN n 1) form).toNat := by
  have c4 := cls_bit _ (pat_lt 4 (by decide) n hn)
  have c2 := cls_bit _ (pat_lt 2 (by decide) n hn)
  have c1 := cls_bit _ (pat_lt 1 (by decide) n hn)
  obtain ⟨p4, p5, p6⟩ := pat_bits (n := n) (w := 4)
  obtain ⟨q4, q5, q6⟩ := pat_bits (n := n) (w := 2)
  obtain ⟨r4, r5, r6⟩ := pat_bits (n := n) (w := 1)
  rcases List.mem_cons.mp hw with rfl | hw
  · unfold meantN meantB
    rw [if_pos rfl, if_pos rfl, if_pos rfl, if_pos rfl, c4.1, c2.1, c1.1, p4, q4, r4]
    exact (dg_bits n hn).1
  rcases List.mem_cons.mp hw with rfl | hw
  · unfold meantN meantB
    rw [if_neg not_u.2.2.2.1, if_neg not_u.2.2.2.1, if_neg not_u.2.2.2.1, if_neg not_u.2.2.2.1, if_pos rfl, if_pos rfl, if_pos rfl, if_pos rfl, c4.2.1, c2.2.1, c1.2.1, p5, q5, r5]
    exact (dg_bits n hn).2.1
  rcases List.mem_cons.mp hw with rfl | hw
  · unfold meantN meantB
    rw [if_neg not_u.2.2.2.2.1, if_neg not_u.2.2.2.2.1, if_neg not_u.2.2.2.2.1, if_neg not_u.2.2.2.2.1, if_neg not_u.2.2.2.2.2, if_neg not_u.2.2.2.2.2, if_neg not_u.2.2.2.2.2, if_neg not_u.2.2.2.2.2, if_pos rfl, if_pos rfl, if_pos rfl, if_pos rfl, c4.2.2, c2.2.2, c1.2.2, p6, q6, r6]
    exact (dg_bits n hn).2.2.1
  obtain ⟨b4, b5, b6⟩ := base_bits what
  obtain ⟨o4, o5, o6⟩ := or1_bits _ (base_lt what)
  rw [meant_wh hw, meantB_wh hw, meantB_wh hw, meantB_wh hw, no_x.1, no_x.2.1, no_x.2.2, any_x n hn]
  have h0 : (if 114 ∈ what.cps.toList then true else (false && (decide (88 ∈ what.cps.toList) && (decide (V.str f0 = V.str "folder") || !decide (V.int (patN n 4 : Nat) = V.int 0))))).toNat = hasN what 114 := by
    unfold hasN
    by_cases h : 114 ∈ what.cps.toList
    · rw [if_pos h, if_pos (decide_eq_true h)] <;> rfl
    · rw [if_neg h, if_neg (by rw [decide_eq_false h]; decide)] <;> rfl
  have h1 : (if 119 ∈ what.cps.toList then true else (false && (decide (88 ∈ what.cps.toList) && (decide (V.str f1 = V.str "folder") || !decide (V.int (patN n 2 : Nat) = V.int 0))))).toNat = hasN what 119 := by
    unfold hasN
    by_cases h : 119 ∈ what.cps.toList
    · rw [if_pos h, if_pos (decide_eq_true h)] <;> rfl
    · rw [if_neg h, if_neg (by rw [decide_eq_false h]; decide)] <;> rfl
  rw [h0, h1]
  cases hm : moreB what n form with
  | true =>
    rw [if_pos rfl]
    refine ⟨by omega, by omega, ?_⟩
    rw [o6, show (decide (88 ∈ what.cps.toList) && (decide (V.str form = V.str "folder") || decide ((0 : Int) < Builtin.bitAnd (n : Nat) 73))) = true from hm]
    split <;> rfl
  | false =>
    rw [if_neg (by decide)]
    refine ⟨by omega, by omega, ?_⟩
    rw [b6, show (decide (88 ∈ what.cps.toList) && (decide (V.str form = V.str "folder") || decide ((0 : Int) < Builtin.bitAnd (n : Nat) 73))) = false from hm]
    unfold hasN
    by_cases h : 120 ∈ what.cps.toList
    · rw [if_pos h, if_pos (decide_eq_true h)] <;> rfl
    · rw [if_neg h, if_neg (by rw [decide_eq_false h]; decide)] <;> rfl
theorem form_is : ∀ form ∈ forms, (if decide (V.str form = V.str "file") then "file" else "folder") = form := by decide +kernel
theorem done_is_res {who sign what form : Str} {n : Nat} (hwho : who ∈ allWho) (hsign : sign ∈ allSign) (hwhat : what ∈ allw) (hform : form ∈ forms) (hn : n < 512) : resN who sign what n form = doneN who sign what n form := by
  obtain ⟨m4, m2, m1⟩ := meant_bits (f0 := "file") (f1 := "file") (form := form) hwhat hn
  have hm8 := meant_lt (what := what) (form := form) hn
  have hmask : maskN who < 8 := by have := (who_ok who hwho).2.1; omega
  obtain ⟨k4, k2, k1⟩ := mask_bits who hwho
  obtain ⟨p4, p5, p6⟩ := pat_bits (n := n) (w := 4)
  obtain ⟨q4, q5, q6⟩ := pat_bits (n := n) (w := 2)
  obtain ⟨r4, r5, r6⟩ := pat_bits (n := n) (w := 1)
  obtain ⟨a4, a2, a1⟩ := pb_bits sign hsign _ hmask _ (pat_lt 4 (by decide) n hn) (meantB what 114 (patN n 4) "file")
  obtain ⟨b4, b2, b1⟩ := pb_bits sign hsign _ hmask _ (pat_lt 2 (by decide) n hn) (meantB what 119 (patN n 2) "file")
  obtain ⟨c4, c2, c1⟩ := pb_bits sign hsign _ hmask _ (pat_lt 1 (by decide) n hn) (meantB what 120 (patN n 1) form)
  have e0 : tabF who sign what 0 (patN n 4) = pbN (maskN who) sign (meantB what 114 (patN n 4) "file") (patN n 4) := rfl
  have e1 : tabF who sign what 1 (patN n 2) = pbN (maskN who) sign (meantB what 119 (patN n 2) "file") (patN n 2) := rfl
  have e2 : (if decide (V.str form = V.str "file") then tabF who sign what 2 else tabF who sign what 3) (patN n 1) = pbN (maskN who) sign (meantB what 120 (patN n 1) form) (patN n 1) := by
    have hf := form_is form hform
    cases hd : decide (V.str form = V.str "file") with
    | true => rw [hd] at hf; have hf : "file" = form := hf; rw [← hf]; rfl
    | false => rw [hd] at hf; have hf : "folder" = form := hf; rw [← hf]; rfl
  have lq : Low (if decide (V.str form = V.str "file") then tabF who sign what 2 else tabF who sign what 3) := by
    cases decide (V.str form = V.str "file")
    · exact tab_low hwho 3
    · exact tab_low hwho 2
  have hs := or_sum _ (tab_low (sign := sign) (what := what) hwho 0 _ (pat_lt 4 (by decide) n hn)) _ (tab_low (sign := sign) (what := what) hwho 1 _ (pat_lt 2 (by decide) n hn)) _ (lq _ (pat_lt 1 (by decide) n hn))
  have hr : resN who sign what n form = bitsN (tabF who sign what 0 (patN n 4)) 4 + bitsN (tabF who sign what 1 (patN n 2)) 2 + bitsN ((if decide (V.str form = V.str "file") then tabF who sign what 2 else tabF who sign what 3) (patN n 1)) 1 := by
    unfold resN numI
    rw [hs]
    rfl
  rw [hr, e0, e1, e2]
  unfold bitsN doneN
  rw [a4, a2, a1, b4, b2, b1, c4, c2, c1, p4, p5, p6, q4, q5, q6, r4, r5, r6]
  unfold partN
  rw [gain_bits sign hsign _ (dg_lt hn) _ hm8, gain_bits sign hsign _ (dg_lt hn) _ hm8, gain_bits sign hsign _ (dg_lt hn) _ hm8, m4, m2, m1]
  generalize (meantB what 114 (patN n 4) "file").toNat = A
  generalize (meantB what 119 (patN n 2) "file").toNat = B
  generalize (meantB what 120 (patN n 1) form).toNat = C
  obtain ⟨u4, v4, w4, ud, vd, wd⟩ := dg_bits n hn
  rw [u4.1, u4.2.1, u4.2.2, v4.1, v4.2.1, v4.2.2, w4.1, w4.2.1, w4.2.2, ud, vd, wd]
  clear u4 v4 w4 ud vd wd hr hs a4 a2 a1 b4 b2 b1 c4 c2 c1 e0 e1 e2 p4 p5 p6 q4 q5 q6 r4 r5 r6 lq m4 m2 m1 hm8
  generalize n / 4 / 64 % 2 = x1
  generalize n / 4 / 8 % 2 = x2
  generalize n / 4 % 2 = x3
  generalize n / 2 / 64 % 2 = x4
  generalize n / 2 / 8 % 2 = x5
  generalize n / 2 % 2 = x6
  generalize n / 1 / 64 % 2 = x7
  generalize n / 1 / 8 % 2 = x8
  generalize n / 1 % 2 = x9
  by_cases hu : 117 ∈ who.cps.toList <;> by_cases hg : 103 ∈ who.cps.toList <;> by_cases ho : 111 ∈ who.cps.toList <;>
    simp only [k4, k2, k1, hu, hg, ho, if_true, if_false] <;> omega
end KY
set_option Elab.async false
set_option linter.all false
set_option maxRecDepth 100000
set_option maxHeartbeats 4000000
namespace KY
open PySem PySem.Spec PyProof.Rows L2 Evl
local macro_rules | `(tactic| walk_at "ev") => `(tactic| repeat' (first | exact ev_c | exact ev_var rfl | exact rv_I0 | refine' rv_I ?_ | refine' rv_eq ?_ | refine' rv_ne ?_ | refine' ev_op ?_ ?_ ?_ | exact ea_nil | refine' ea_cons ?_ ?_ | refine' et_test ?_ | refine' et_B ?_ | refine' et_not ?_ | refine' ev_notV ?_))

open PySem
/-! a text and a tuple, side by side -/
theorem five {p : Addr → Prop} {c1 c2 c3 c4 c5 : Addr} (a1 : p c1) (a2 : p c2) (a3 : p c3) (a4 : p c4) (a5 : p c5) : ∀ c ∈ [c1, c2, c3, c4, c5], p c :=
  List.forall_mem_cons.mpr ⟨a1, List.forall_mem_cons.mpr ⟨a2, List.forall_mem_cons.mpr ⟨a3, List.forall_mem_cons.mpr ⟨a4, List.forall_mem_cons.mpr ⟨a5, List.forall_mem_nil _⟩⟩⟩⟩⟩
theorem off5 {c c1 c2 c3 c4 c5 : Addr} (h : c ∉ [c1, c2, c3, c4, c5]) : c ≠ c1 ∧ c ≠ c3 ∧ c ≠ c4 ∧ c ≠ c5 := by
  simp only [List.mem_cons, List.not_mem_nil, or_false, not_or] at h
  exact ⟨h.1, h.2.2.1, h.2.2.2⟩
/-- where the two iterators, their pair and the zip stand, i turns on -/
structure SideAt (x : Str) (t : Tok) (b z TI TO i1 i2 : Addr) (i : Nat) (h : Heap) : Prop where
  zip : IsZip h z TI TO .none
  its : IsTupOf2 h TI (.ref i1) (.ref i2)
  out : ∃ v1 v2, IsTupOf2 h TO v1 v2
  txt : h.IsStrIter i1 (strIterType x) x t i
  tup : h.IsTupleIter i2 b i
section
variable {x : Str} {t : Tok} {b z TI TO i1 i2 : Addr} {i : Nat} {h h' : Heap}
theorem SideAt.obj (q : SideAt x t b z TI TO i1 i2 i h) : ∀ c ∈ [z, TI, TO, i1, i2], ∃ o, h.get? c = some o ∧ ∀ v, o.data ≠ .cell v := by
  obtain ⟨v1, v2, ho⟩ := q.out
  obtain ⟨p1, g1, _, n1⟩ := q.txt
  obtain ⟨p2, g2, _, n2⟩ := q.tup
  exact five ⟨_, q.zip, nofun⟩ ⟨_, q.its, nofun⟩ ⟨_, ho, nofun⟩ ⟨p1, g1, by rw [n1]; exact nofun⟩ ⟨p2, g2, by rw [n2]; exact nofun⟩
theorem SideAt.lt (q : SideAt x t b z TI TO i1 i2 i h) : ∀ c ∈ [z, TI, TO, i1, i2], c < h.objs.size := fun c m => let ⟨_, e, _⟩ := q.obj c m; Heap.lt_size e
theorem SideAt.keep (q : SideAt x t b z TI TO i1 i2 i h) (k : ∀ c ∈ [z, TI, TO, i1, i2], ∀ o, h.get? c = some o → h'.get? c = some o) : SideAt x t b z TI TO i1 i2 i h' := by
  obtain ⟨v1, v2, ho⟩ := q.out
  obtain ⟨p1, g1, n1⟩ := q.txt
  refine ⟨k z ?_ _ q.zip, k TI ?_ _ q.its, ⟨v1, v2, k TO ?_ _ ho⟩, ⟨p1, k i1 ?_ _ g1, n1⟩, q.tup.at fun o e => k i2 ?_ o e⟩ <;> simp
end
/-- what a walk over both gives: pairs of a sign and an item -/
def ItzS (K : PySem.W.Frag) (x : Str) (b : Addr) : It :=
  ⟨fun i H => ∃ (ys : List V) (c : Nat) (y : V), SqT K H b ys ∧ x.cps[i]? = some c ∧ ys[i]? = some y,
    fun i H v H' => ∃ (T : Addr) (c : Nat) (y : V), v = .ref T ∧ H T = none ∧ H' = upd H T (.tup [.str ⟨#[c]⟩, y]) ∧ x.cps[i]? = some c ∧ ∀ ys, SqT K H b ys → ys[i]? = some y,
    fun i H => ∃ ys : List V, SqT K H b ys ∧ ys.length = x.cps.size ∧ i = ys.length⟩
theorem turn_zipS {P : Program} {w : World} {K : PySem.W.Frag} {elts : List Expr} {kk : Nat} {tpos : Pos} {x : Str} {t : Tok} {b z TI TO i1 i2 : Addr} (S : ZipSep2 z TI TO i1 i2 [i1] [i2, b]) (hb : b ≠ i2) :
    Turn P w K (.Tuple elts kk tpos) (ItzS K x b) [z, TI, TO, i1, i2] z (SideAt x t b z TI TO i1 i2) where
  mem := List.mem_cons_self ..
  obj := fun _ _ q => q.obj
  keep := fun _ _ _ q k => q.keep k
  self := fun _ _ _ _ _ q k => wpAny_pyIter_zip q.zip k
  item := by
    intro X e1 e2 e3 calm i pins s σ H E I free st more
    subst e1 e2 e3
    obtain ⟨ys, c, y, seq, hx, hy⟩ := more
    obtain ⟨us, ru, isT, _⟩ := I.tuple seq
    obtain ⟨u, hu, ry⟩ := ru.get hy
    have quiet : X.A.in1.handled = none := I.ok.hd calm
    have in1 : i < x.cps.size := (Array.getElem?_eq_some_iff.mp hx).1
    have in2 : i < us.toArray.size := by simpa using (List.getElem?_eq_some_iff.mp hu).1
    obtain ⟨v1, v2, out⟩ := st.out
    refine wpAny_pyNext_zipD2_item S (Draws.text quiet i1 x t) (Draws.tuple quiet i2 b hb us.toArray) st.zip st.its out st.txt ⟨st.tup, isT⟩ in1 in2 fun w1 w2 g tk ⟨c1, t1, hc1, ew⟩ hw2 gz gO g1 g2 gT _ rest => ?_
    subst ew
    obtain rfl : c = c1 := Option.some.inj (hx.symm.trans hc1)
    obtain rfl : u = w2 := Option.some.inj ((show us.toArray[i]? = some u by simpa using hu).symm.trans hw2)
    have zlt := st.lt z (List.mem_cons_self ..)
    refine ⟨_, rfl, wpAny_letOwnedTupleGo_zip (s := { s with heap := g, toks := tk }) gz fun g' gz' but => ?_⟩
    have gT' := (but.2 _ (Nat.ne_of_gt zlt)).trans gT
    have pair : ObjOk X.prog X.w (upd H s.heap.objs.size (.tup [.str ⟨#[c]⟩, y])) g' s.heap.objs.size (.tup [.str ⟨#[c]⟩, y]) := ⟨by show 2 ≤ sizeLine; decide, [.str ⟨#[c]⟩ t1, u], .cons ⟨t1, rfl⟩ (.cons ry .nil), ⟨_, gT', rfl, _, rfl⟩⟩
    have far : ∀ c' o, c' ∉ [z, TI, TO, i1, i2] → s.heap.get? c' = some o → g'.get? c' = some o := fun c' o n e => by
      obtain ⟨n1, n2, n3, n4⟩ := off5 n
      exact (but.2 c' n1).trans (rest c' o n1 n2 n3 n4 e)
    refine ⟨.ref s.heap.objs.size, _, I.turnedNew (t' := tk) (ch := [z, TI, TO, i1, i2]) far free (Nat.le_refl _) pair, rfl, ⟨_, c, y, rfl, I.hok.fresh (Nat.le_refl _), rfl, hx, fun l hl => by rw [I.tuple_inj hl seq]; exact hy⟩, ?_, fun c' m => ?_⟩
    · obtain ⟨p1, q1, r1⟩ := g1
      exact ⟨gz', (but.2 _ S.TIz).trans (rest _ _ S.TIz S.TITO S.TIi1 S.TIi2 st.its), ⟨_, _, (but.2 _ S.TOz).trans gO⟩, ⟨p1, (but.2 _ S.zi1.symm).trans q1, r1⟩, g2.1.at fun o q => (but.2 _ S.zi2.symm).trans q⟩
    · exact (upd_ne (Nat.ne_of_lt (st.lt c' m))).trans (free c' m).1
  done := by
    intro X e1 e2 e3 calm i pins s σ H E I free st over
    subst e1 e2 e3
    obtain ⟨ys, seq, len, rfl⟩ := over
    obtain ⟨us, ru, isT, _⟩ := I.tuple seq
    have quiet : X.A.in1.handled = none := I.ok.hd calm
    have size : us.toArray.size = ys.length := by rw [ru.length]; simp
    obtain ⟨v1, v2, out⟩ := st.out
    exact wpAny_pyNext_zipD2_end S (Draws.text quiet i1 x t) (Draws.tuple quiet i2 b hb us.toArray) st.zip st.its out st.txt ⟨st.tup, isT⟩ (Nat.le_of_eq len) (Nat.le_of_eq size.symm) (.inl len) fun g tk rest => ⟨rfl, I.turnedL (t' := tk) (ch := [z, TI, TO, i1, i2]) (fun c o n e => by
      obtain ⟨n1, n2, n3, n4⟩ := off5 n
      exact rest c o n1 n2 n3 n4 e) free⟩
def iZipS (K : PySem.W.Frag) (ta : TA) : TI := fun σ H R => ta σ H fun vs H1 => ∃ x b ys, vs = [.str x, .ref b] ∧ SqT K H1 b ys ∧ R (ItzS K x b) H1
theorem pi_zipS {X : Cx} {e d : Expr} {ta : TA} {p pos tpos : Pos} {elts : List Expr} {kk : Nat} (hg : Gl X "zip") (hm : X.mg "zip" = none) (ha : PA X [e, d] ta) (flat : starEach [e, d] X.env = (false, eval e X.env) :: starEach [d] X.env := by rfl)
    (plain : (backTo pos (starEach [d] X.env)).any (·.1) = false := by rfl) : PI X (.Tuple elts kk tpos) (.Call (.Name "zip" p) [e, d] [] pos) (iZipS X.K ta) where
  run := fun pins s σ H R I start => by
    refine Call_ (ld_blt I hg hm PyProof.Rows.boot_zip (PyProof.Rows.callWith_type1 (thn (ha.run pos pins s σ H _ I start) fun us s1 ⟨vs, H1, J, r, x, b, ys, ev, seq, go⟩ => ?_) flat plain))
    subst ev
    cases r with | cons q1 q2 => ?_
    cases q2 with | cons q2 q3 => ?_
    cases q3
    obtain ⟨t, rfl⟩ := q1
    cases q2
    obtain ⟨ws, _, isT, _⟩ := J.tuple seq
    have bl : b < s1.heap.objs.size := let ⟨_, ho, _⟩ := id isT; Heap.lt_size ho
    have young : ∀ j, FpOk X pins H1 (s1.heap.objs.size + j) := fun j => J.fpOk (Nat.le_add_right ..) (J.hok.fresh (Nat.le_add_right ..))
    have isT' : s1.heap.IsTuple b ws.toArray := isT
    refine zip_begins2 (begins_text x t) (begins_tuple b ws.toArray) trivial isT' fun g gz gI gO g1 g2 _ rest => wpAny_pyIter_zip gz ?_
    exact ⟨s1.heap.objs.size + 4, _, SideAt x t b (s1.heap.objs.size + 4) (s1.heap.objs.size + 2) (s1.heap.objs.size + 3) s1.heap.objs.size (s1.heap.objs.size + 1), ItzS X.K x b, H1, rfl, J.kept (t' := s1.toks) rest, turn_zipS (t := t) (zip_sep2 nofun fun c m => List.mem_singleton.mp m ▸ bl) (Nat.ne_of_lt (Nat.lt_succ_of_lt bl)), ⟨gz, gI, ⟨_, _, gO⟩, ⟨_, g1, rfl, rfl⟩, ⟨_, g2, rfl, rfl⟩⟩, five (young 4) (young 2) (young 3) (young 0) (young 1), go⟩
end KY
set_option Elab.async false
set_option linter.all false
set_option maxRecDepth 100000
set_option maxHeartbeats 4000000
namespace KY
open PySem PySem.Spec PyProof.Rows L2 Evl
local macro_rules | `(tactic| walk_at "ev") => `(tactic| repeat' (first | exact ev_c | exact ev_var rfl | exact rv_I0 | refine' rv_I ?_ | refine' rv_eq ?_ | refine' rv_ne ?_ | refine' ev_op ?_ ?_ ?_ | exact ea_nil | refine' ea_cons ?_ ?_ | refine' et_test ?_ | refine' et_B ?_ | refine' et_not ?_ | refine' ev_notV ?_))

open PySem
theorem pt_truthE {X : Cx} {K : PySem.W.Frag} {e : Expr} {ta : TE} (ha : PE X e ta) (he : ∀ whole, isTrue e X.env whole = (do let v ← whole; standAt e.pos; holding [v] (truthy v))) (hK : X.K = K := by rfl) :
    PT X e (fun σ H Q => ta σ H fun x H' => ∃ k, TruV K x H' k ∧ Q k H') := by
  subst hK
  exact pt_truth ha he
section
variable {K : PySem.W.Frag} {σ : L2.St} {H H' : Hp} {ta tb te tx tv : TE} {t u : TT} {x y z v : V} {r : R2}
theorem et_truth {i : Int} (h : Ev te σ H (.int i)) : EvT (fun σ H Q => te σ H fun x H' => ∃ k, TruV K x H' k ∧ Q k H') σ H (i != 0) := fun H1 e Q q => h H1 e _ fun H2 e2 => ⟨_, rfl, q H2 e2⟩
/-- a comprehension over a text and a tuple, side by side -/
theorem el_lcZ {s : Str} {b : Addr} {ys : List V} {ta : TA} {i1 i2 : Nat} {vs : List Nat} (v : Nat → V) (h : EvA ta σ H [.str s, .ref b]) (hb : SqT K H b ys) (hl : ys.length = s.cps.size) (hz : s.cps.size ≤ 40000)
    (hw : ∀ x y, wipe (((wipe σ vs).set i1 (some x)).set i2 (some y)) vs = wipe σ vs)
    (he : ∀ (i c : Nat) (y : V) H1, Ex H H1 → s.cps[i]? = some c → ys[i]? = some y → Ev te (((wipe σ vs).set i1 (some (.str ⟨#[c]⟩))).set i2 (some y)) H1 (v i)) :
    EvL (tLc (iZipS K ta) (gTup K 2 (gCons (gName i1) (gCons (gName i2) gNil))) tYes te vs) σ H (given s.cps.size (fun _ => true) v) := fun H0 e Q q => h H0 e _ fun H1 e1 => ⟨s, b, ys, rfl, ex_t (e.trans e1) hb, fun Dl hD =>
  ⟨fun i m H' => m = s.cps.size - i ∧ i ≤ s.cps.size ∧ Cw H1 (fun _ => true) v Dl i H', ⟨s.cps.size, by simp, Nat.zero_le _, hD, Ex.new hD, upd_same⟩, by
    rintro i m H' ⟨rfl, hi, p⟩
    have hb' : SqT K H' b ys := ex_t ((e.trans e1).trans p.2.1) hb
    by_cases hlt : i < s.cps.size
    · refine .inr ⟨⟨ys, s.cps[i], ys[i], hb', by simp [hlt], by simp [hl, hlt]⟩, Cw H1 (fun _ => true) v Dl (i + 1), fun H2 p' => ⟨s.cps.size - (i + 1), by omega, rfl, hlt, p'⟩, ?_⟩
      rintro x H2 ⟨T, c, y, rfl, hT, rfl, hc, hy⟩
      have hy' := hy ys hb'
      have e2 : Ex H' (upd H' T (.tup [.str ⟨#[c]⟩, y])) := Ex.new hT
      have p' : Cw H1 (fun _ => true) v Dl i (upd H' T (.tup [.str ⟨#[c]⟩, y])) := ⟨p.1, p.2.1.trans e2, e2 _ _ p.2.2⟩
      exact ⟨T, _, rfl, st_of upd_same, rfl, _, _, rfl, _, _, rfl, rfl, hw _ _, cw_turn p' (by omega) et_yes (fun _ => he i c y H1 (e.trans e1) hc hy')⟩
    · have e2 : i = s.cps.size := by omega
      subst e2
      exact .inl ⟨⟨ys, hb', hl, hl.symm⟩, q Dl H' (fresh_back e1 p.1) (e1.trans p.2.1) p.2.2⟩⟩⟩
end
def nineS : Str := "rwxrwxrwx"
def nineB : List Int := [256, 128, 64, 32, 16, 8, 4, 2, 1]
def signAt (n i : Nat) : Str := if (Builtin.bitAnd (n : Nat) (nineB.getD i 0) != 0) = true then ⟨#[nineS.cps.toList.getD i 0]⟩ else "-"
def shown (n : Nat) : Str := Txt.join "" ((List.range 9).map (signAt n))
def spStr (a : Ads) : Sp := fun vs H Q _ => ∃ (p : Addr) (n : Nat), vs = [.ref p] ∧ ModeAt a H p n ∧ n < 512 ∧ ∀ H', Ex H H' → Q (.str (shown n)) H'
theorem dash1 : ("-" : Str).length = 1 := by decide +kernel
theorem sign1 (n i : Nat) : (signAt n i).length = 1 := by
  unfold signAt
  split
  · rfl
  · exact dash1
theorem nine_size : nineS.cps.size = 9 := by decide +kernel
section
variable {P : Program} {w : World} {K : PySem.W.Frag} {mg : Str → Option Value} {base : Heap} {a : Ads}
theorem ok_Mode_str (T : Txt w K mg a) : FnOk P w K mg base CX0 1 a.f_ModeD_strD a.d_ModeD_strD ["self"] (spStr a) := by
  refine T.fn_ModeD_strD.ok sc_ModeD_strD (fun vs H Q E h => ?_) (fun cdv A outer s H vs Q E hr h => ?_)
  · obtain ⟨_, _, rfl, _⟩ := h
    rfl
  · obtain ⟨p, n, rfl, ⟨dx, hp⟩, hn, k⟩ := h
    refine ⟨_, (pss_one (ps_ret (pe_join pe_str (pe_lc (own := [("sign", 1), ("bit", 2)]) (g := gTup K 2 (gCons (gName 1) (gCons (gName 2) gNil))) rfl sc_ModeD_strD.nd (pi_zipS (by rfl) T.b_zip (pa_cons (pe_glob (v := .str "rwxrwxrwx") rfl T.mg_NINE_SIGNS.choose_spec ⟨_, rfl⟩) (pa_cons (pe_glob (v := .ref a.k_NINE_BITS) rfl T.mg_NINE_BITS rfl) pa_nil))) (blkOk_by (own := [("sign", 1), ("bit", 2)]) (N := n_ModeD_strD) (sc := defScope s_ModeD_strD) (by decide +kernel)) (fun _ _ _ _ _ => (pg_tup rfl (pgs_cons (pg_name (i := 1) sc_ModeD_strD.nd rfl (Or.inl rfl)) (pgs_cons (pg_name (i := 2) sc_ModeD_strD.nd rfl (Or.inl rfl)) pgs_nil)))) (fun _ _ _ _ _ => pts_nil) (fun _ _ _ _ _ => (pe_ifExp (pt_truthE (K := K) (pe_op op_and (pe_fldE (K := K) (pv 0) rfl) (pv 2)) (by intro _; rfl)) (pv 1) pe_str)))))), ?_⟩
    refine s_ret (v := .str (shown n)) (ev_join (ys := (List.range 9).map (signAt n)) ev_c (el_is (el_lcZ (K := K) (s := nineS) (b := a.k_NINE_BITS) (ys := nineB.map V.int) (fun i => V.str (signAt n i)) (ea_cons ev_c (ea_cons ev_c ea_nil)) (T.t_NINE_BITS H) (by decide +kernel) (by decide +kernel) (fun _ _ => rfl) (fun i c y H1 e hc hy => ?_)) ?_) ?_) fun H1 e1 => k H1 e1
    · rw [← Array.getElem?_toList] at hc
      rw [List.getElem?_map] at hy
      obtain ⟨b, hb, rfl⟩ := Option.map_eq_some_iff.mp hy
      refine ev_if (b := (Builtin.bitAnd (n : Nat) b != 0)) (et_truth (ev_op (ev_fld (ev_var rfl) (e _ _ hp) T.c_Mode T.n_number_Mode (by simp [List.lookup])) (ev_var rfl) rv_I0)) (fun h => ev_is (ev_var rfl) ?_) (fun h => ev_is ev_c ?_)
      · unfold signAt
        rw [show nineB.getD i 0 = b by simp [List.getD, hb], if_pos h, show nineS.cps.toList.getD i 0 = c by simp [List.getD, hc]]
      · unfold signAt
        rw [show nineB.getD i 0 = b by simp [List.getD, hb], if_neg (by rw [h]; decide)]
    · rw [given_all, nine_size, List.map_map]
      rfl
    · have : ∀ l : List Nat, ((l.map (signAt n)).map (·.length)).sum = l.length := by
        intro l
        induction l with
        | nil => rfl
        | cons x l ih => simp only [List.map_cons, List.sum_cons, List.length_cons, ih, sign1]; omega
      rw [this, List.length_map, List.length_range, show ("" : Str).length = 0 from rfl]
      decide
end
/-! str of an own instance -/
section
variable {X : Cx} {CX : CXT} {C g : Addr} {n : Nat} {sp : Sp} {E : XK} {fd : FuncData} {ps : List Str}
def rStrOwn (C : Addr) (sp : Sp) (E : XK) : List V → Hp → VK → Prop := fun xs H Q => ∃ a dx fs, xs = [V.ref a] ∧ H a = some (.ins C dx fs) ∧ sp [.ref a] H (fun z H' => ∃ s, z = .str s ∧ Q z H') E
theorem call_strOwn (hs : PySem.W.findIn X.K (.ref C) "__str__" = some (some (.ref g))) (hf : PySem.W.isFn X.K (.ref g) = true) (F : FnR X.prog X.w X.K X.mg X.base CX n g sp) (hr : Room (n + 2) X.A) (hx : Passes CX X E) : CallR X (.type "str") (rStrOwn C sp E) := by
  intro pins s σ H xs us Q I r start
  obtain ⟨a, dx, fs, rfl, hsl, q⟩ := start
  obtain ⟨u, rfl, ru⟩ := r.one
  obtain rfl : u = Value.ref a := ru
  obtain ⟨ox, od, J, _⟩ := StX.insC_at (X := X) I (.inr ⟨dx, fs, hsl⟩)
  have low : Room (n + 1) X.A.in1 := Room.in1 hr
  have hr2 : Room n X.A.in1.in1 := low.in1
  refine PySem.W.kso_call hr2.units0 I.kIn J hs hf (wpAny_mono (wpAny_call (SlX.run_at (us := [.ref a]) (ws := [.ref a]) F hr2 I.env0.in1.in1 hx I (.cons rfl .nil) q)) (fun w s' z => ?_) fun _ _ x => x)
  obtain ⟨z', H', I', rz, s2, ei, qz⟩ := z
  subst ei
  obtain ⟨t, e⟩ := (show ∃ t, w = Value.str s2 t from rz)
  cases e
  exact ⟨.str s2, H', I', ⟨t, rfl⟩, qz⟩
/-- a call of an own instance by keywords alone -/
theorem callK_of {M : Model} {A : Around} {E : Value → Shared → Prop} {s : Shared} {a : Addr} {pos : Pos} {Q : Value → Shared → Prop} {args : List (Bool × Sem Value)} {kws : List (Option Str × Sem Value)} (hplain : (args.any (·.1) || kws.any (·.1.isNone)) = false)
    (h : wpAny M A (evalArgs (.ref a) true args kws) (fun z s₁ => (∃ C ox od, PySem.W.InstAt s₁.heap a ox C od ∧ ox.data = .plain) ∧ wpAny M A (call (.ref a) ([] ++ z.pos) z.kw) Q E s₁) E s) : wpAny M A (callWith pos (.ref a) [] args kws) Q E s := by
  unfold callWith
  refine wpAny_bind (wpAny_holding (wpAny_mono h (fun got s2 there => wpAny_bind (wpAny_standAt ?_)) fun _ _ same => same))
  obtain ⟨⟨C, ox, od, J, hd⟩, go⟩ := there
  simp only [hplain]
  refine wpAny_bind ((PySem.W.kco_keeper (M := M) J hd).here ?_)
  exact wpAny_bind (wpAny_mono (wpAny_operateT go) (fun r s₂ hr => wpAny_bind (wpAny_holding (wpAny_point (wpAny_pure hr)))) fun _ _ y => y)
def tCallOK (C : Addr) (sp : Sp) (gV : List V → List V → List V) (E : XK) (tf : TE) (tk : TA) : TE := fun σ H Q => tf σ H fun y H1 => ∃ p, y = V.ref p ∧ tk σ H1 fun zs H2 => (∃ dx fs, H2 p = some (.ins C dx fs)) ∧ sp (gV [.ref p] zs) H2 Q E
theorem pe_callOK {fe : Expr} {pos : Pos} {kws : List Keyword} {tf : TE} {tk : TA} {ks : List Str} {gg : List Value → List Value → List Value} {gV : List V → List V → List V} (hf : PE X fe tf) (c : StX.CallO X.K C g) (F : FnOk X.prog X.w X.K X.mg X.base CX n g fd ps sp) (hr : Room n X.A) (hb : KBinds X.K fd ps ks gg gV) (hx : Passes CX X E)
    (hkw : PK X kws tk) (hall : (backToKw pos (keywordEach kws X.env)).all (·.1.isSome) = true := by rfl) (hks : (backToKw pos (keywordEach kws X.env)).filterMap (·.1) = ks := by rfl)
    (hpl : ((backTo pos (starEach [] X.env)).any (·.1) || (backToKw pos (keywordEach kws X.env)).any (·.1.isNone)) = false := by rfl)
    (ht : eval (.Call fe [] kws pos) X.env = (do callWith pos (← eval fe X.env) [] (backTo pos (starEach [] X.env)) (backToKw pos (keywordEach kws X.env))) := by rfl) : PE X (.Call fe [] kws pos) (tCallOK C sp gV E tf tk) := by
  refine ⟨fun pins s σ H Q I h => ?_⟩
  rw [ht]
  refine wpAny_bind (thn (hf.run pins s σ H _ I h) fun u s1 ⟨y, H1, I1, ry, p, ey, q⟩ => ?_)
  subst ey
  obtain rfl : u = Value.ref p := ry
  refine callK_of hpl (PyProof.Rows.evalArgs_kw2_nil hall (thn (hkw.run pos pins s1 σ H1 _ I1 q) fun ws s2 ⟨zs, H2, I2, rz, ⟨dx, fs, hi⟩, q2⟩ => ?_))
  obtain ⟨ox, od, J, hd⟩ := StX.insC_at (X := X) I2 (.inr ⟨dx, fs, hi⟩)
  refine ⟨⟨C, ox, od, J, hd⟩, ?_⟩
  rw [hks]
  have r2 := hb.rel (vs := [.ref p]) (us := [.ref p]) (.cons rfl .nil) rz
  have hl : (gg [.ref p] ws).length = ps.length := by rw [← r2.length]; exact F.len _ _ _ _ q2
  refine wpAny_call (PySem.W.kco_code (a := ⟨[] ++ [], ks.zip ws⟩) I2.kIn J hd c.at_ c.fn c.fi (codeAny_mono (F.run X.A X.stack s2 H2 ⟨[.ref p], ks.zip ws⟩ (gg [.ref p] ws) (gV [.ref p] zs) Q E hr I2.env0 (hb.to s2 [.ref p] ws I2.kIn hl) r2 q2) fun r s' hq => ?_))
  cases r with
  | error e => exact hx pins σ H2 s2 e s' I2 hq
  | ok fl =>
    cases fl with
    | ret u => exact I2.after hq
    | next => exact False.elim hq
    | brk => exact False.elim hq
    | cont => exact False.elim hq
end
end KY
set_option Elab.async false
set_option linter.all false
set_option maxRecDepth 100000
set_option maxHeartbeats 4000000
namespace KY
open PySem PySem.Spec PyProof.Rows L2 Evl
local macro_rules | `(tactic| walk_at "ev") => `(tactic| repeat' (first | exact ev_c | exact ev_var rfl | exact rv_I0 | refine' rv_I ?_ | refine' rv_eq ?_ | refine' rv_ne ?_ | refine' ev_op ?_ ?_ ?_ | exact ea_nil | refine' ea_cons ?_ ?_ | refine' et_test ?_ | refine' et_B ?_ | refine' et_not ?_ | refine' ev_notV ?_))

open PySem
section
variable {X : Cx} {K : PySem.W.Frag} {a : Ads} {σ : L2.St} {H H' : Hp} {ta tb te tx tf : TE} {t tk : TA} {tt : TT} {x y z v : V} {r : R2} {D : Ends} {tz tu : TS} {E : XK} {g : TG}
theorem em_callO {p : Addr} {who sign what form : Str} {n : Nat} (hf : Ev tf σ H (.ref p)) (ha : EvA t σ H [v, .str form]) (c : ClauseAt K a H p who sign what) (hw : who ∈ allWho) (hn : n < 512) (hv : AsMode a H v n) :
    EvM a (StX.tCallO X a.f_Clause (fun vs H Q E => spCall K a (vs ++ []) H Q E) E tf t) σ H (resN who sign what n form) := fun H1 e Q q =>
  hf H1 e _ fun H2 e2 => ⟨p, rfl, ha H2 (e.trans e2) _ fun H3 e3 => by
    have c3 := c.mono ((e.trans e2).trans e3)
    obtain ⟨dx, tt, ho, _⟩ := c3.ob
    exact ⟨.inr ⟨dx, _, ho⟩, p, v, n, who, sign, what, form, rfl, c3, hw, hn, (by
      rcases hv with rfl | ⟨q, rfl, m⟩
      · exact .inl rfl
      · exact .inr ⟨q, rfl, m.mono ((e.trans e2).trans e3)⟩), fun q' H4 hq e4 m => q q' H4 (fresh_back (e2.trans e3) hq) ((e2.trans e3).trans e4) m⟩⟩
def gK (us ws : List V) : List V := match us, ws with | [x], [f, m] => [x, m, f] | _, _ => []
def gKv (us ws : List Value) : List Value := match us, ws with | [x], [f, m] => [x, m, f] | _, _ => []
theorem em_callOK {p : Addr} {who sign what form : Str} {n : Nat} (hf : Ev tf σ H (.ref p)) (ha : EvA tk σ H [.str form, v]) (c : ClauseAt K a H p who sign what) (hw : who ∈ allWho) (hn : n < 512) (hv : AsMode a H v n) :
    EvM a (tCallOK a.f_Clause (spCall K a) gK E tf tk) σ H (resN who sign what n form) := fun H1 e Q q =>
  hf H1 e _ fun H2 e2 => ⟨p, rfl, ha H2 (e.trans e2) _ fun H3 e3 => by
    have c3 := c.mono ((e.trans e2).trans e3)
    obtain ⟨dx, tt, ho, _⟩ := c3.ob
    exact ⟨⟨dx, _, ho⟩, p, v, n, who, sign, what, form, rfl, c3, hw, hn, (by
      rcases hv with rfl | ⟨q, rfl, m⟩
      · exact .inl rfl
      · exact .inr ⟨q, rfl, m.mono ((e.trans e2).trans e3)⟩), fun q' H4 hq e4 m => q q' H4 (fresh_back (e2.trans e3) hq) ((e2.trans e3).trans e4) m⟩⟩
theorem q_asgL3 {i n1 n2 n3 : Nat} {t1 t2 t3 : TE} (h1 : EvM a t1 σ H n1) (h2 : EvM a t2 σ H n2) (h3 : EvM a t3 σ H n3)
    (k : ∀ (l p1 p2 p3 : Addr) (H1 : Hp), Ex H H1 → H1 l = some (.lst [.ref p1, .ref p2, .ref p3]) → ModeAt a H1 p1 n1 → ModeAt a H1 p2 n2 → ModeAt a H1 p3 n3 → tz D (σ.set i (some (.ref l))) H1) : tSeq (tAsg (tLst (tCons t1 (tCons t2 (tCons t3 tNil)))) (gName i)) tz D σ H :=
  h1 H (Ex.refl H) _ fun p1 H1 _ e1 m1 => h2 H1 e1 _ fun p2 H2 _ e2 m2 => h3 H2 (e1.trans e2) _ fun p3 H3 _ e3 m3 => ⟨by show 3 ≤ sizeLine; decide, fun l hl =>
    k l p1 p2 p3 _ (((e1.trans e2).trans e3).trans (Ex.new hl)) upd_same (m1.mono ((e2.trans e3).trans (Ex.new hl))) (m2.mono (e3.trans (Ex.new hl))) (m3.mono (Ex.new hl))⟩
theorem q_forNT {xs : List V} {tl : TE} (h : EvU tl σ H xs) (Pv : Addr → Nat → L2.St → Hp → Prop) (h0 : ∀ p H1, H p = none → Ex H H1 → H1 p = some (.tup xs) → Pv p 0 σ H1) (hl : ∀ p i σ' H', i ≤ xs.length → Pv p i σ' H' → SqT K H' p xs)
    (hs : ∀ p i x σ' H', xs[i]? = some x → Pv p i σ' H' → g x σ' H' fun σ2 H2 => tu { D with nx := Pv p (i + 1), ct := Pv p (i + 1), bk := tz D } σ2 H2) (hd : ∀ p σ' H', Pv p xs.length σ' H' → tz D σ' H') : tSeq (tFor (iTup K tl) g tu) tz D σ H :=
  h H (Ex.refl H) _ fun p H1 hp e h1 => ⟨p, rfl, ⟨xs, st_of h1⟩, for_tup (D := { D with nx := tz D }) (Pv p) (h0 p H1 hp e h1) (hl p) (hs p) (hd p)⟩
theorem ev_opU1 {xs : List V} (ha : EvU ta σ H xs) (hb : Ev tb σ H y) (hr : ∀ p H1, H1 p = some (.tup xs) → Ex H H1 → RV r (.ref p) y H1 z) : Ev (tOp r ta tb) σ H z := fun H1 e Q q =>
  ha H1 e _ fun p H2 _ e2 h2 => hb H2 (e.trans e2) _ fun H3 e3 => hr p H3 (e3 _ _ h2) ((e.trans e2).trans e3) H3 (Ex.refl _) _ fun H4 e4 => q H4 ((e2.trans e3).trans e4)
theorem dp_strs : ∀ ns : List Str, DpAll K H (ns.map V.str) (ns.map PyData.str)
  | [] => .nil
  | n :: ns => .cons (.str n) (dp_strs ns)
theorem eqv_strs : ∀ a b : List Str, PyData.eqvAll (a.map PyData.str) (b.map PyData.str) = decide (a = b)
  | [], [] => by simp [PyData.eqvAll, PyData.eqv]
  | [], _ :: _ => by simp [PyData.eqvAll, PyData.eqv]
  | _ :: _, [] => by simp [PyData.eqvAll, PyData.eqv]
  | x :: a, y :: b => by
    have := eqv_strs a b
    simp only [List.map_cons, PyData.eqvAll, PyData.eqv, this]
    by_cases h : x = y <;> by_cases h2 : a = b <;> simp [h, h2]
/-- a new clause -/
def EvC (K : PySem.W.Frag) (a : Ads) (te : TE) (σ : L2.St) (H : Hp) (who sign what : Str) : Prop := ∀ H1, Ex H H1 → ∀ Q : VK, (∀ p H2, H1 p = none → Ex H1 H2 → ClauseAt K a H2 p who sign what → Q (.ref p) H2) → te σ H1 Q
theorem ec_make {who sign what : Str} (h : EvA t σ H [.str who, .str sign, .str what]) (h1 : who ∈ allWho) (h2 : sign ∈ allSign) (h3 : what ∈ allw) : EvC K a (tMake a.f_Clause (spClause K a) [] E t) σ H who sign what := fun H1 e1 Q q =>
  h H1 e1 _ fun H2 e2 x dx hx hdx hne => ⟨x, dx, who, who, sign, what, rfl, .inl rfl, h1, h2, h3, upd_same, fun H3 k3 c => ⟨rfl, q x H3 (fresh_back e2 hx) (e2.trans fun b o hb => by
    have bx := ne_of_none hb hx
    have bdx := ne_of_none hb hdx
    exact k3 b o (by rw [upd_ne bx, upd_ne bdx]; exact hb) bx) c⟩⟩
theorem q_parCM {i j n : Nat} {t1 t2 : TE} {who sign what : Str} (h1 : EvC K a t1 σ H who sign what) (h2 : EvM a t2 σ H n) (k : ∀ c m H1, Ex H H1 → ClauseAt K a H1 c who sign what → ModeAt a H1 m n → tz D ((σ.set i (some (.ref c))).set j (some (.ref m))) H1) : tSeq (tPar i j (tCons t1 (tCons t2 tNil))) tz D σ H :=
  h1 H (Ex.refl H) _ fun c H1 _ e1 hc => h2 H1 e1 _ fun m H2 _ e2 hm => ⟨_, _, rfl, k c m H2 (e1.trans e2) (hc.mono e2) hm⟩
theorem q_asgC {i : Nat} {who sign what : Str} (h : EvC K a te σ H who sign what) (k : ∀ c H1, Ex H H1 → ClauseAt K a H1 c who sign what → tz D (σ.set i (some (.ref c))) H1) : tSeq (tAsg te (gName i)) tz D σ H :=
  h H (Ex.refl H) _ fun c H1 _ e1 hc => k c H1 e1 hc
/-- the mode that is handed in is new -/
theorem em_callOM {p : Addr} {who sign what form : Str} {n : Nat} {tm : TE} (hf : Ev tf σ H (.ref p)) (hm : EvM a tm σ H n) (c : ClauseAt K a H p who sign what) (hw : who ∈ allWho) (hn : n < 512) :
    EvM a (StX.tCallO X a.f_Clause (fun vs H Q E => spCall K a (vs ++ []) H Q E) E tf (tCons tm (tCons (tC (.str form)) tNil))) σ H (resN who sign what n form) := fun H1 e Q q =>
  hf H1 e _ fun H2 e2 => ⟨p, rfl, hm H2 (e.trans e2) _ fun m H3 _ e3 hm3 => by
    have c3 := c.mono ((e.trans e2).trans e3)
    obtain ⟨dx, tt, ho, _⟩ := c3.ob
    exact ⟨.inr ⟨dx, _, ho⟩, p, .ref m, n, who, sign, what, form, rfl, c3, hw, hn, .inr ⟨m, rfl, hm3⟩, fun q' H4 hq e4 m => q q' H4 (fresh_back (e2.trans e3) hq) ((e2.trans e3).trans e4) m⟩⟩
/-- the clause is new -/
theorem em_callOC {who sign what form : Str} {n : Nat} (hf : EvC K a tf σ H who sign what) (ha : ∀ H1, Ex H H1 → EvA t σ H1 [.int n, .str form]) (hw : who ∈ allWho) (hn : n < 512) :
    EvM a (StX.tCallO X a.f_Clause (fun vs H Q E => spCall K a (vs ++ []) H Q E) E tf t) σ H (resN who sign what n form) := fun H1 e Q q =>
  hf H1 e _ fun p H2 _ e2 c => ⟨p, rfl, ha H1 e H2 e2 _ fun H3 e3 => by
    have c3 := c.mono e3
    obtain ⟨dx, tt, ho, _⟩ := c3.ob
    exact ⟨.inr ⟨dx, _, ho⟩, p, .int n, n, who, sign, what, form, rfl, c3, hw, hn, .inl rfl, fun q' H4 hq e4 m => q q' H4 (fresh_back (e2.trans e3) hq) ((e2.trans e3).trans e4) m⟩⟩
theorem ev_propM {n : Nat} (h : EvM a te σ H n) : Ev (tProp a.f_Mode (getSp a.f_Mode "_number") [] E te) σ H (.int n) := fun H1 e Q q =>
  h H1 e _ fun p H2 _ e2 ⟨dx, ho⟩ => ⟨p, dx, _, rfl, ho, p, dx, _, _, rfl, ho, by simp [List.lookup], q H2 e2⟩
theorem ev_strO {n : Nat} (h : EvM a te σ H n) (hn : n < 512) : Ev (tCB (rStrOwn a.f_Mode (fun vs H Q E => spStr a (vs ++ []) H Q E) E) (tCons te tNil)) σ H (.str (shown n)) := fun H1 e Q q =>
  h H1 e _ fun p H2 _ e2 ⟨dx, ho⟩ => ⟨p, dx, _, rfl, ho, p, n, rfl, ⟨dx, ho⟩, hn, fun H3 e3 => ⟨_, rfl, q H3 (e2.trans e3)⟩⟩
end
theorem shaped3 {x y z : Str} (h1 : PyData.strOk x = true) (h2 : PyData.strOk y = true) (h3 : PyData.strOk z = true) : SeqAt.shaped (.tuple [.str x, .str y, .str z]) = true ∧ SeqAt.shaped (.list [.str x, .str y, .str z]) = true := by
  constructor <;> simp [SeqAt.shaped, PyData.canLay0, PyData.canLayAll0, PyData.depth, PyData.depthAll, h1, h2, h3]
theorem oks : (∀ s ∈ allWho, PyData.strOk s = true) ∧ (∀ s ∈ allSign, PyData.strOk s = true) ∧ (∀ s ∈ allw, PyData.strOk s = true) ∧ (∀ s ∈ (["rwxr----x", "rw-r-----", "rwx------"] : List Str), PyData.strOk s = true) := by decide +kernel
theorem rv_neT3 {K : PySem.W.Frag} {H : Hp} {p q : Addr} {x y z : Str} (h1 : H p = some (.tup [.str x, .str y, .str z])) (h2 : H q = some (.tup [.str x, .str y, .str z])) (s1 : PyData.strOk x = true) (s2 : PyData.strOk y = true) (s3 : PyData.strOk z = true) : RV (rNeD K) (.ref p) (.ref q) H (.bl false) := fun H1 e Q k =>
  ⟨.tuple [.str x, .str y, .str z], .tuple [.str x, .str y, .str z], .tup (st_of (e _ _ h1)) (dp_strs [x, y, z]), .tup (st_of (e _ _ h2)) (dp_strs [x, y, z]), (shaped3 s1 s2 s3).1, (shaped3 s1 s2 s3).1, by
    rw [show PyData.eqv (.tuple [.str x, .str y, .str z]) (.tuple [.str x, .str y, .str z]) = PyData.eqvAll ([x, y, z].map PyData.str) ([x, y, z].map PyData.str) by simp [PyData.eqv], eqv_strs, decide_eq_true rfl]
    exact k H1 (Ex.refl H1)⟩
theorem rv_eqL3 {K : PySem.W.Frag} {H : Hp} {p q : Addr} {x y z : Str} (h1 : H p = some (.lst [.str x, .str y, .str z])) (h2 : H q = some (.lst [.str x, .str y, .str z])) (s1 : PyData.strOk x = true) (s2 : PyData.strOk y = true) (s3 : PyData.strOk z = true) : RV (rEqD K) (.ref p) (.ref q) H (.bl true) := fun H1 e Q k =>
  ⟨.list [.str x, .str y, .str z], .list [.str x, .str y, .str z], .lst (sq_of (e _ _ h1)) (dp_strs [x, y, z]), .lst (sq_of (e _ _ h2)) (dp_strs [x, y, z]), (shaped3 s1 s2 s3).2, (shaped3 s1 s2 s3).2, by
    rw [show PyData.eqv (.list [.str x, .str y, .str z]) (.list [.str x, .str y, .str z]) = PyData.eqvAll ([x, y, z].map PyData.str) ([x, y, z].map PyData.str) by simp [PyData.eqv], eqv_strs, decide_eq_true rfl]
    exact k H1 (Ex.refl H1)⟩
theorem kb_call {w : World} {K : PySem.W.Frag} {mg : Str → Option Value} {a : Ads} (T : Txt w K mg a) : KBinds K a.d_ClauseD_callD ["self", "mode", "form"] ["form", "mode"] gKv gK where
  to := fun s us ws X hl => by
    obtain ⟨oc, od, kV, doc, pm, an, cdv, ct, osl, e, lk, hcd⟩ := T.fn_ClauseD_callD.ex
    rw [e]
    match us, ws, hl with
    | [x], [f, m], _ => exact .of_eq rfl
  rel := fun {vs us zs ws} r1 r2 => by
    cases r1 with
    | nil => exact .nil
    | cons h1 t1 =>
      cases t1 with
      | cons _ _ => exact .nil
      | nil =>
        cases r2 with
        | nil => exact .nil
        | cons h2 t2 =>
          cases t2 with
          | nil => exact .nil
          | cons h3 t3 =>
            cases t3 with
            | nil => exact .cons h1 (.cons h3 (.cons h2 .nil))
            | cons _ _ => exact .nil
theorem ends7 : ([shown (resN "u" "=" "rwX" 417 "file"), shown (resN "u" "=" "rwX" 416 "file"), shown (resN "u" "=" "rwX" 64 "file")] : List Str) = (["rwxr----x", "rw-r-----", "rwx------"] : List Str) ∧ resN "ugo" "-" "" 493 "folder" = 493 := by decide +kernel
end KY
set_option Elab.async false
set_option linter.all false
set_option maxRecDepth 100000
set_option maxHeartbeats 4000000
namespace KY
open PySem PySem.Spec PyProof.Rows L2 Evl
local macro_rules | `(tactic| walk_at "ev") => `(tactic| repeat' (first | exact ev_c | exact ev_var rfl | exact rv_I0 | refine' rv_I ?_ | refine' rv_eq ?_ | refine' rv_ne ?_ | refine' ev_op ?_ ?_ ?_ | exact ea_nil | refine' ea_cons ?_ ?_ | refine' et_test ?_ | refine' et_B ?_ | refine' et_not ?_ | refine' ev_notV ?_))

open PySem
theorem pi_tupE {X : Cx} {K : PySem.W.Frag} {tg l : Expr} {tl : TE} (hl : PE X l tl) (hK : X.K = K := by rfl) : PI X tg l (iTup K tl) := by
  subst hK
  exact pi_tup hl
/-- tuple(x), K written out -/
def rTup (K : PySem.W.Frag) : List V → Hp → VK → Prop := fun xs H Q => ∃ p ys, xs = [.ref p] ∧ ((SqL K H p ys ∧ ∀ l, H l = none → Q (.ref l) (upd H l (.tup ys))) ∨ (SqT K H p ys ∧ Q (.ref p) H))
theorem call_tupE {X : Cx} {K : PySem.W.Frag} (hK : X.K = K := by rfl) : CallR X (.type "tuple") (rTup K) := by
  subst hK
  exact call_tuple_of
section
variable {K : PySem.W.Frag} {σ : L2.St} {H H' : Hp} {ta tb te tx tv : TE} {t u : TT} {x y z v : V} {r : R2} {D : Ends} {tz : TS}
theorem ell_zip {a b : Addr} {xs ys : List V} {ta : TA} {i1 i2 n : Nat} {vs : List Nat} (rows : Nat → List V) (h : EvA ta σ H [.ref a, .ref b]) (hx : SqT K H a xs) (hy : SqT K H b ys) (l1 : xs.length = n) (l2 : ys.length = n) (hz : n ≤ 40000)
    (hw : ∀ x y, wipe (((wipe σ vs).set i1 (some x)).set i2 (some y)) vs = wipe σ vs)
    (he : ∀ (i : Nat) (x y : V) H1, Ex H H1 → xs[i]? = some x → ys[i]? = some y → EvU te (((wipe σ vs).set i1 (some x)).set i2 (some y)) H1 (rows i)) :
    EvLL (tLc (RZ.iZipA K ta) (gTup K 2 (gCons (gName i1) (gCons (gName i2) gNil))) tYes te vs) σ H n rows := fun H0 e Q q => h H0 e _ fun H1 e1 => ⟨a, b, xs, ys, rfl, .inr ⟨ex_t (e.trans e1) hx, ex_t (e.trans e1) hy, fun Dl hD =>
  ⟨fun i m H' => m = n - i ∧ i ≤ n ∧ (H1 Dl = none ∧ Ex H1 H' ∧ ∃ qs : List Addr, qs.length = i ∧ H' Dl = some (.lst (qs.map V.ref)) ∧ ∀ j q, qs[j]? = some q → H1 q = none ∧ H' q = some (.tup (rows j)) ∧ q ≠ Dl), ⟨n, by simp, Nat.zero_le _, hD, Ex.new hD, [], rfl, upd_same, fun j q hq => by simp at hq⟩, by
    rintro i m H' ⟨rfl, hi, p1, p2, qs, p3, p4, p5⟩
    have sx : SqT K H' a xs := ex_t ((e.trans e1).trans p2) hx
    have sy : SqT K H' b ys := ex_t ((e.trans e1).trans p2) hy
    by_cases hlt : i < n
    · refine .inr ⟨⟨xs, ys, xs[i], ys[i], sx, sy, by simp [l1, hlt], by simp [l2, hlt]⟩, (fun H' => H1 Dl = none ∧ Ex H1 H' ∧ ∃ qs : List Addr, qs.length = i + 1 ∧ H' Dl = some (.lst (qs.map V.ref)) ∧ ∀ j q, qs[j]? = some q → H1 q = none ∧ H' q = some (.tup (rows j)) ∧ q ≠ Dl), fun H2 p' => ⟨n - (i + 1), by omega, rfl, hlt, p'⟩, ?_⟩
      rintro w H2 ⟨T, x, y, rfl, hT, rfl, gx, gy⟩
      have e2 : Ex H' (upd H' T (.tup [x, y])) := Ex.new hT
      have e02 : Ex H1 (upd H' T (.tup [x, y])) := p2.trans e2
      refine ⟨T, _, rfl, st_of upd_same, rfl, _, _, rfl, _, _, rfl, rfl, hw _ _, yes_at (iteT ?_)⟩
      refine he i x y H1 (e.trans e1) (gx xs sx) (gy ys sy) _ e02 _ fun q H4 hq e4 h4 => ⟨qs.map V.ref, e4 _ _ (e2 _ _ p4), sz_lt (by rw [List.length_map]; omega), p1, Ex.mut (e02.trans e4) p1, qs ++ [q], by rw [List.length_append, p3] <;> rfl, by rw [upd_same, List.map_append] <;> rfl, fun j r hr => ?_⟩
      have qD : q ≠ Dl := fun z => by rw [z, e2 _ _ p4] at hq; cases hq
      by_cases hj : j < qs.length
      · rw [List.getElem?_append_left hj] at hr
        obtain ⟨r1, r2, r3⟩ := p5 j r hr
        exact ⟨r1, by rw [upd_ne r3]; exact e4 _ _ (e2 _ _ r2), r3⟩
      · have hj2 : j = qs.length := by
          have := (List.getElem?_eq_some_iff.mp hr).1
          rw [List.length_append] at this
          have e1 : ([q] : List Addr).length = 1 := rfl
          omega
        subst hj2
        rw [List.getElem?_append_right (Nat.le_refl _), Nat.sub_self] at hr
        obtain rfl : q = r := Option.some.inj hr
        exact ⟨fresh_back e02 hq, by rw [upd_ne qD, p3]; exact h4, qD⟩
    · have e2 : i = n := by omega
      subst e2
      exact .inl ⟨⟨xs, ys, sx, sy, .inl (Nat.le_of_eq l1)⟩, q Dl qs H' (fresh_back e1 p1) (e1.trans p2) p3 p4 fun j r hr => ⟨fresh_back e1 (p5 j r hr).1, (p5 j r hr).2.1⟩⟩⟩⟩⟩
end
/-- tables: four rows of eight -/
def TabR (K : PySem.W.Frag) (H : Hp) (t : Addr) (rows : Nat → Nat → Nat) : Prop := Tab K H t (rows 0) (rows 1) (rows 2) (rows 3)
def spTurn (K : PySem.W.Frag) : Sp := fun vs H Q _ => ∃ (p q : Addr) (f g : Nat → Nat → Nat), vs = [.ref p, .ref q] ∧ TabR K H p f ∧ TabR K H q g ∧ (∀ k, Low (f k)) ∧ ∀ t H', Ex H H' → TabR K H' t (fun k i => g k (f k i)) → Q (.ref t) H'
section
variable {P : Program} {w : World} {K : PySem.W.Frag} {mg : Str → Option Value} {base : Heap} {a : Ads}
theorem row_at {f : Nat → Nat} {i : Nat} {x : V} (h : (rowV f)[i]? = some x) : i < 8 ∧ x = .int (f i : Nat) := by
  unfold rowV at h
  rw [List.getElem?_map] at h
  obtain ⟨j, hj, rfl⟩ := Option.map_eq_some_iff.mp h
  have h8 := (List.getElem?_eq_some_iff.mp hj).1
  rw [List.length_range] at h8
  rw [List.getElem?_range h8] at hj
  cases hj
  exact ⟨h8, rfl⟩
abbrev scFirst : Scope := { kind := .function, names := [(".0", .local), ("first", .local), ("later", .cell), ("tuple", .globalImplicit)], isGenerator := false, isCoroutine := false }
theorem ok_in_turn (T : Txt w K mg a) {ft : Addr} {dt : FuncData} (F : Fun K "in_turn" "in_turn" s_in_turn ft dt) : FnOk P w K mg base CX0 1 ft dt ["one", "other"] (spTurn K) := by
  refine F.ok sc_in_turn (fun vs H Q E h => ?_) (fun cdv A outer s H vs Q E hr h => ?_)
  · obtain ⟨_, _, _, _, rfl, _⟩ := h
    rfl
  · obtain ⟨p, q, f, gg, rfl, ⟨p0, p1, p2, p3, hp, f0, f1, f2, f3⟩, ⟨q0, q1, q2, q3, hq, g0, g1, g2, g3⟩, low, k⟩ := h
    refine ⟨_, (pss_one (ps_ret (pe_callTy (call_tupE (K := K)) (by rfl) T.b_tuple (by decide +kernel) (pa_cons (pe_lc (own := [("first", 2), ("later", 3)]) (g := gTup K 2 (gCons (gName 2) (gCons (gName 3) gNil))) rfl sc_in_turn.nd (RZ.pi_zipA (by rfl) T.b_zip (pa_cons (pv 0) (pa_cons (pv 1) pa_nil))) (blkOk_by (own := [("first", 2), ("later", 3)]) (N := n_in_turn) (sc := defScope s_in_turn) (by decide +kernel)) (fun _ _ _ _ _ => (pg_tup rfl (pgs_cons (pg_name (i := 2) sc_in_turn.nd rfl (Or.inl rfl)) (pgs_cons (pg_name (i := 3) sc_in_turn.nd rfl (Or.inr rfl)) pgs_nil)))) (fun _ _ _ _ _ => pts_nil) (fun _ _ _ _ _ => (pe_callTy (call_tupE (K := K)) (by rfl) T.b_tuple (by decide +kernel) (pa_cons (pe_lc (own := [("pattern", 4)]) (g := gName 4) rfl sc_in_turn.nd (pi_tupE (K := K) (pv 2)) (blkOk_by (own := [("pattern", 4)]) (N := n_in_turn) (sc := scFirst) (by decide +kernel)) (fun _ _ _ _ _ => (pg_name (i := 4) sc_in_turn.nd rfl (Or.inl rfl))) (fun _ _ _ _ _ => pts_nil) (fun _ _ _ _ _ => (pe_ix (r := rIxT K) ix_tup (pv 3) (pv 4) (fun _ _ => rfl)))) pa_nil)))) pa_nil)))), ?_⟩
    have at4 : ∀ (i : Nat) (x y : V) (H1 : Hp), Ex H H1 → ([.ref p0, .ref p1, .ref p2, .ref p3] : List V)[i]? = some x → ([.ref q0, .ref q1, .ref q2, .ref q3] : List V)[i]? = some y → ∃ c d : Addr, x = .ref c ∧ y = .ref d ∧ SqT K H1 c (rowV (f i)) ∧ SqT K H1 d (rowV (gg i)) := fun i x y H1 e hx hy => by
      match i, hx, hy with
      | 0, hx, hy => exact ⟨p0, q0, (Option.some.inj hx).symm, (Option.some.inj hy).symm, ex_t e f0, ex_t e g0⟩
      | 1, hx, hy => exact ⟨p1, q1, (Option.some.inj hx).symm, (Option.some.inj hy).symm, ex_t e f1, ex_t e g1⟩
      | 2, hx, hy => exact ⟨p2, q2, (Option.some.inj hx).symm, (Option.some.inj hy).symm, ex_t e f2, ex_t e g2⟩
      | 3, hx, hy => exact ⟨p3, q3, (Option.some.inj hx).symm, (Option.some.inj hy).symm, ex_t e f3, ex_t e g3⟩
      | n + 4, hx, _ => simp at hx
    refine euu_tuple (K := K) (n := 4) (rows := fun k => rowV fun i => gg k (f k i)) (ell_zip (K := K) (n := 4) (fun k => rowV fun i => gg k (f k i)) (ea_cons (ev_var rfl) (ea_cons (ev_var rfl) ea_nil)) hp hq rfl rfl (by decide) (fun _ _ => rfl) (fun i x y H1 e1 hx hy => ?_)) H (Ex.refl H) _ fun t qs H1 _ e1 hl h1 hrows => k t H1 e1 (Tab.mk4 (rows := fun k i => gg k (f k i)) hl h1 fun j q hj => (hrows j q hj).2)
    obtain ⟨c, d, rfl, rfl, hc, hd⟩ := at4 i x y H1 e1 hx hy
    refine eu_tuple (K := K) (el_is (el_lcT (K := K) (xs := rowV (f i)) (σ' := fun x => [some (.ref p), some (.ref q), some (.ref c), some (.ref d), some x]) (fun _ => true) (fun j => V.int (gg i (f i j) : Nat)) (ev_var rfl) hc (by unfold rowV; simp) (fun j x H2 Q' e2 hj q => q) (fun _ => rfl) (fun _ _ _ _ _ => et_yes) (fun j x H2 e2 hj _ => ?_)) ?_)
    · obtain ⟨h8, rfl⟩ := row_at hj
      exact ev_op (ev_var rfl) (ev_var rfl) (rv_rowT (ex_t e2 hd) (low i j h8))
    · rw [given_all, show (rowV (f i)).length = 8 by unfold rowV; simp]
      rfl
end
end KY
set_option Elab.async false
set_option linter.all false
set_option maxRecDepth 100000
set_option maxHeartbeats 4000000
namespace KY
open PySem PySem.Spec PyProof.Rows L2 Evl
local macro_rules | `(tactic| walk_at "ev") => `(tactic| repeat' (first | exact ev_c | exact ev_var rfl | exact rv_I0 | refine' rv_I ?_ | refine' rv_eq ?_ | refine' rv_ne ?_ | refine' ev_op ?_ ?_ ?_ | exact ea_nil | refine' ea_cons ?_ ?_ | refine' et_test ?_ | refine' et_B ?_ | refine' et_not ?_ | refine' ev_notV ?_))

open PySem
/-! the signs of a text, counted -/
structure CountAt (x : Str) (t : Tok) (e it : Addr) (i : Nat) (h : Heap) : Prop where
  en : ∃ old, IsEnum h e it (i : Int) old
  txt : h.IsStrIter it (strIterType x) x t i
theorem two {p : Addr → Prop} {c1 c2 : Addr} (a1 : p c1) (a2 : p c2) : ∀ c ∈ [c1, c2], p c := List.forall_mem_cons.mpr ⟨a1, List.forall_mem_cons.mpr ⟨a2, List.forall_mem_nil _⟩⟩
theorem off2 {c c1 c2 : Addr} (h : c ∉ [c1, c2]) : c ≠ c1 ∧ c ≠ c2 := by
  simp only [List.mem_cons, List.not_mem_nil, or_false, not_or] at h
  exact h
section
variable {x : Str} {t : Tok} {e it : Addr} {i : Nat} {h h' : Heap}
theorem CountAt.obj (q : CountAt x t e it i h) : ∀ c ∈ [e, it], ∃ o, h.get? c = some o ∧ ∀ v, o.data ≠ .cell v := by
  obtain ⟨old, he⟩ := q.en
  obtain ⟨p1, g1, _, n1⟩ := q.txt
  exact two ⟨_, he, nofun⟩ ⟨p1, g1, by rw [n1]; exact nofun⟩
theorem CountAt.lt (q : CountAt x t e it i h) : ∀ c ∈ [e, it], c < h.objs.size := fun c m => let ⟨_, g, _⟩ := q.obj c m; Heap.lt_size g
theorem CountAt.keep (q : CountAt x t e it i h) (k : ∀ c ∈ [e, it], ∀ o, h.get? c = some o → h'.get? c = some o) : CountAt x t e it i h' := by
  obtain ⟨old, he⟩ := q.en
  obtain ⟨p1, g1, n1⟩ := q.txt
  refine ⟨⟨old, k e ?_ _ he⟩, ⟨p1, k it ?_ _ g1, n1⟩⟩ <;> simp
end
/-- pairs of a number and a sign -/
def ItEn (x : Str) : It :=
  ⟨fun i _ => i < x.cps.size, fun i H v H' => ∃ (T : Addr) (c : Nat), v = .ref T ∧ H T = none ∧ H' = upd H T (.tup [.int (i : Nat), .str ⟨#[c]⟩]) ∧ x.cps[i]? = some c, fun i _ => i = x.cps.size⟩
theorem turn_enS {P : Program} {w : World} {K : PySem.W.Frag} {elts : List Expr} {kk : Nat} {tpos : Pos} {x : Str} {t : Tok} {e it : Addr} (ne : e ≠ it) :
    Turn P w K (.Tuple elts kk tpos) (ItEn x) [e, it] e (CountAt x t e it) where
  mem := List.mem_cons_self ..
  obj := fun _ _ q => q.obj
  keep := fun _ _ _ q k => q.keep k
  self := fun _ _ _ _ _ q k => let ⟨_, he⟩ := q.en; wpAny_pyIter_enum he k
  item := by
    intro X e1 e2 e3 calm i pins s σ H E I free st more
    subst e1 e2 e3
    have quiet : X.A.in1.handled = none := I.ok.hd calm
    obtain ⟨old, he⟩ := st.en
    refine wpAny_pyNext_enum_itemC (Draws.text quiet it x t) he st.txt more ne (fun m => ne (List.mem_singleton.mp m)) fun w1 g tk src out s1 gT _ rest => ?_
    obtain ⟨c, t1, hc, rfl⟩ := src
    have elt := st.lt e (List.mem_cons_self ..)
    refine ⟨_, rfl, wpAny_letOwnedTupleGo_enum (s := { s with heap := g, toks := tk + 1 }) out fun g' en' but => ?_⟩
    have gT' := (but.2 _ (Nat.ne_of_gt elt)).trans gT
    have pair : ObjOk X.prog X.w (upd H s.heap.objs.size (.tup [.int (i : Nat), .str ⟨#[c]⟩])) g' s.heap.objs.size (.tup [.int (i : Nat), .str ⟨#[c]⟩]) := ⟨by show 2 ≤ sizeLine; decide, [.int (i : Nat) tk, .str ⟨#[c]⟩ t1], .cons ⟨tk, rfl⟩ (.cons ⟨t1, rfl⟩ .nil), ⟨_, gT', rfl, _, rfl⟩⟩
    have far : ∀ c' o, c' ∉ [e, it] → s.heap.get? c' = some o → g'.get? c' = some o := fun c' o n q => by
      obtain ⟨n1, n2⟩ := off2 n
      exact (but.2 c' n1).trans (rest c' o n1 n2 q)
    refine ⟨.ref s.heap.objs.size, _, I.turnedNew (t' := tk + 1) (ch := [e, it]) far free (Nat.le_refl _) pair, rfl, ⟨_, c, rfl, I.hok.fresh (Nat.le_refl _), rfl, hc⟩, ?_, fun c' m => ?_⟩
    · obtain ⟨p1, q1, r1⟩ := s1
      refine ⟨⟨.str ⟨#[c]⟩ t1, ?_⟩, ⟨p1, (but.2 _ ne.symm).trans q1, r1⟩⟩
      rw [show ((i + 1 : Nat) : Int) = (i : Int) + 1 by omega]
      exact en'
    · exact (upd_ne (Nat.ne_of_lt (st.lt c' m))).trans (free c' m).1
  done := by
    intro X e1 e2 e3 calm i pins s σ H E I free st over
    subst e1 e2 e3
    have over : i = x.cps.size := over
    subst over
    have quiet : X.A.in1.handled = none := I.ok.hd calm
    obtain ⟨old, he⟩ := st.en
    exact wpAny_pyNext_enum_endD (Draws.text quiet it x t) he st.txt fun g rest => ⟨rfl, I.turnedL (t' := s.toks) (ch := [e, it]) (fun c o n q => rest c o (off2 n).2 q) free⟩
def iEnS (te : TE) : TI := fun σ H R => te σ H fun v H1 => ∃ x, v = .str x ∧ R (ItEn x) H1
theorem pi_enS {X : Cx} {d : Expr} {te : TE} {p pos tpos : Pos} {elts : List Expr} {kk : Nat} (hg : Gl X "enumerate") (hm : X.mg "enumerate" = none) (ha : PE X d te) (flat : starEach [d] X.env = (false, eval d X.env) :: starEach [] X.env := by rfl)
    (plain : (backTo pos (starEach [] X.env)).any (·.1) = false := by rfl) : PI X (.Tuple elts kk tpos) (.Call (.Name "enumerate" p) [d] [] pos) (iEnS te) where
  run := fun pins s σ H R I start => by
    have one : PA X [d] (tCons te tNil) := pa_cons (hs := flat) ha pa_nil
    refine Call_ (ld_blt I hg hm PyProof.Rows.boot_enumerate (PyProof.Rows.callWith_type1 (thn (one.run pos pins s σ H (fun vs H1 => ∃ x, vs = [.str x] ∧ R (ItEn x) H1) I ?st) fun us s1 ⟨vs, H1, J, r, q⟩ => ?_) flat plain))
    case st =>
      show te σ H fun v H1 => ∃ x, [v] = [V.str x] ∧ R (ItEn x) H1
      have : (fun v H1 => ∃ x, v = V.str x ∧ R (ItEn x) H1) = fun v H1 => ∃ x, [v] = [V.str x] ∧ R (ItEn x) H1 := by
        funext v H1
        simp
      rw [← this]
      exact start
    obtain ⟨x, ev, go⟩ := q
    subst ev
    cases r with | cons q1 q2 => ?_
    cases q2
    obtain ⟨t, rfl⟩ := q1
    have young : ∀ j, FpOk X pins H1 (s1.heap.objs.size + j) := fun j => J.fpOk (Nat.le_add_right ..) (J.hok.fresh (Nat.le_add_right ..))
    refine call_enumerate_str fun g gE g1 _ rest => wpAny_pyIter_enum gE ?_
    exact ⟨s1.heap.objs.size + 1, _, CountAt x t (s1.heap.objs.size + 1) s1.heap.objs.size, ItEn x, H1, rfl, J.kept (t' := s1.toks) rest, turn_enS (Nat.succ_ne_self _), ⟨⟨_, gE⟩, g1⟩, two (young 1) (young 0), go⟩
/-! repr of what can be read, where no object is being shown -/
def rRepr (K : PySem.W.Frag) : List V → Hp → VK → Prop := fun xs H Q => ∃ (p : Addr) (d : PyData), xs = [.ref p] ∧ Dp K H (.ref p) d ∧ d.showable = true ∧ d.hasDict = false ∧ d.depth ≤ 60 ∧ d.shown.length ≤ sizeLine ∧ Q (.str d.shown) H
theorem call_reprD {X : Cx} (hg : X.A.guards = some []) (hu : X.A.units + 64 < cLine) : CallR X (.builtin "repr") (rRepr X.K) := by
  intro pins s σ H xs us Q I r start
  obtain ⟨p, d, rfl, hd, h1, h2, h3, h4, q⟩ := start
  obtain ⟨u, rfl, ru⟩ := r.one
  obtain ⟨as, reads⟩ := Dp.reads I d (.ref p) u hd ru
  obtain rfl : u = Value.ref p := ru
  exact repr_of_reads' reads h1 (fun h => by rw [h2] at h; cases h) hg (by omega) (fun _ _ e => e) (fun g t tk rest => ⟨.str d.shown, H, I.kept (t' := tk) rest, ⟨t, rfl⟩, q⟩) h4
end KY
set_option Elab.async false
set_option linter.all false
set_option maxRecDepth 100000
set_option maxHeartbeats 4000000
namespace KY
open PySem PySem.Spec PyProof.Rows L2 Evl
local macro_rules | `(tactic| walk_at "ev") => `(tactic| repeat' (first | exact ev_c | exact ev_var rfl | exact rv_I0 | refine' rv_I ?_ | refine' rv_eq ?_ | refine' rv_ne ?_ | refine' ev_op ?_ ?_ ?_ | exact ea_nil | refine' ea_cons ?_ ?_ | refine' et_test ?_ | refine' et_B ?_ | refine' et_not ?_ | refine' ev_notV ?_))

open PySem
/-! a law that is run at the top alone: no object is being shown there -/
/-- a def, run in the surrounding A -/
def RunAt (P : Program) (w : World) (K : PySem.W.Frag) (mg : Str → Option Value) (base : Heap) (A : Around) (f : Addr) (fd : FuncData) (ps : List Str) (sp : Sp) : Prop :=
  ∀ (outer : List Env) (s : Shared) (H : Hp) (args : Args) (us : List Value) (vs : List V) (Q : VK) (E : XK), Env0 P w K mg base A outer s H → BindsTo s fd args (ps.zip us) → Vals vs us → sp vs H Q E →
    codeAny (model P w) A (.call (.ref f) args) (CR CX0 outer P w H s Q E) s
theorem Fun.runAt {P : Program} {w : World} {K : PySem.W.Frag} {mg : Str → Option Value} {base : Heap} {A : Around} {x qual : Str} {st : Stmt} {f : Addr} {fd : FuncData} {N ps : List Str} {k : Nat} {sp : Sp} (F : Fun K x qual st f fd) (S : FnScope N ps (defScope st)) (room : Room (k + 1) A)
    (len : ∀ vs H Q E, sp vs H Q E → vs.length = ps.length)
    (body : ∀ (cdv : Value) (outer : List Env) (s : Shared) (H : Hp) (vs : List V) (Q : VK) (E : XK), Room k (A.deeper (envOfC qual (defScope st) s.heap.objs.size f cdv)) → sp vs H Q E →
      ∃ t, PSs (cxOf CX0 P w K mg base N qual (defScope st) f cdv A outer s H E).nox (defBody st) t ∧ t { nx := fun _ H' => Q .non H', rt := Q } (start N vs) H) : RunAt P w K mg base A f fd ps sp := by
  intro outer s H args us vs Q E e0 bind vals want
  obtain ⟨oc, od, kV, doc, pm, an, cdv, ct, osl, rfl, at_, code⟩ := F.ex
  have many := len _ _ _ _ want
  have inK : K.In s.heap := e0.mod.kin.keeps fun b o q => (e0.bs b o q).1
  have free : s.heap.NoLimit := e0.mod.nolimit.keeps fun b o q => (e0.bs b o q).1
  have kinds : ∀ y ∈ ps.zip us, (defScope st).names.lookup y.1 = some .local ∨ ((defScope st).names.lookup y.1 = some .cell ∧ ((cellsFrom (s.heap.objs.size + 1) (defScope st).names []).lookup y.1).isSome = true) := fun y hy =>
    (S.par y.1 (List.of_mem_zip hy).1).imp id fun q => ⟨q, PySem.W.cellsFrom_some _ _ _ (.inl q)⟩
  refine codeAny_call_function room.depth (inK _ _ at_) rfl S.co S.gen rfl (PySem.W.codeRec_of inK code) (bind _ _ _ _ ?_)
  refine wpAny_newFunctionEnv_cells S.kind kinds fun env he s1 call => ?_
  subst he
  obtain ⟨t, does, reads⟩ := body cdv outer s H vs Q E (room.deeper _) want
  refine ⟨free.keeps call.toInCall.keep, codeAny_func (wpAny_mono (does.nox.run [] s1 (start N vs) H _ (inv_start S room.hd e0 many vals call) reads) (fun fl s' ends => ?_) fun _ _ q => q)⟩
  cases fl with
  | ret u => exact let ⟨v, σ', H', J, rv, q⟩ := ends; ⟨v, H', J.os, J.bare, J.base, J.hok, rv, q⟩
  | next => exact let ⟨σ', H', J, q⟩ := ends; ⟨.non, H', J.os, J.bare, J.base, J.hok, rfl, q⟩
  | brk => exact let ⟨_, _, _, q⟩ := ends; False.elim q
  | cont => exact let ⟨_, _, _, q⟩ := ends; False.elim q
/-- the heap that the law is told: the script alone, if it is none of the written objects -/
theorem told {P : Program} {w : World} {K : PySem.W.Frag} {h : Heap} {a : Addr} {vs : List Value} {ns : List Int} (inK : K.In h) (ha : h.get? a = some { cls := .type "list", data := .seq vs.toArray }) (hi : IntsAre vs ns) (hl : ns.length ≤ sizeLine) :
    ∃ H : Hp, Only H ∧ SqL K H a (ns.map V.int) ∧ HOk P w H h ∧ (∀ b, H b ≠ none → b = a) ∧ (H a ≠ none → K.lookup a = none) := by
  have rv := vals_ints hi
  cases hk : K.lookup a with
  | some o =>
    obtain rfl : o = { cls := .type "list", data := .seq vs.toArray } := Option.some.inj ((inK a o hk).symm.trans ha)
    exact ⟨fun _ => none, fun _ => .inl rfl, .inr ⟨_, vs.toArray, _, hk, rfl, rfl, rfl, by rw [List.size_toArray, hi.length]; exact hl, by simpa using rv⟩, fun b u z => (nomatch (show (none : Option HO) = some u from z)), fun b z => absurd rfl z, fun z => absurd rfl z⟩
  | none =>
    let fr : HO := .frz { cls := .type "list", data := .seq vs.toArray } (.lst (ns.map V.int))
    refine ⟨fun b => if b = a then some fr else none, fun b => ?_, .inl (.inr ⟨_, if_pos rfl⟩), fun b u z => ?_, fun b z => Classical.byContradiction fun n => z (if_neg n), fun _ => rfl⟩
    · by_cases e : b = a
      · exact .inr ⟨_, _, if_pos e⟩
      · exact .inl (if_neg e)
    · by_cases e : b = a
      · subst e
        obtain rfl : fr = u := Option.some.inj ((if_pos rfl).symm.trans z)
        have few : (ns.map V.int).length ≤ sizeLine := by rw [List.length_map]; exact hl
        exact ⟨ha, few, vs, _, rv, ha⟩
      · exact nomatch (if_neg e).symm.trans z
theorem top_call {P : Program} {w : World} {K : PySem.W.Frag} {mg mb : Str → Option Value} {fa a : Addr} {fd : FuncData} {x : Str} {sp : Sp} {s₁ : Shared} {vs : List Value} {ns : List Int} (inK : K.In s₁.heap) (names : s₁.heap.Ns mainGlobals mg) (hb : s₁.heap.Ns builtinsNs mb)
    (boot : ∀ x : Str, x ≠ "__name__" → mb x = bootBuiltins x) (free : s₁.heap.NoLimit) (hg : s₁.gens = #[]) (ha : s₁.heap.get? a = some { cls := .type "list", data := .seq vs.toArray }) (hi : IntsAre vs ns) (hl : ns.length ≤ sizeLine)
    (F : ∀ base : Heap, K.In base → base.Ns mainGlobals mg → RunAt P w K mg base callerA fa fd [x] sp) (bind : ∀ (s : Shared) (u : Value), BindsTo s fd ⟨[u], []⟩ [(x, u)]) (want : ∀ H : Hp, Only H → SqL K H a (ns.map V.int) → sp [.ref a] H (fun v _ => v = .bl true) fun _ _ _ => False) :
    codeAny (model P w) callerA (.call (.ref fa) ⟨[.ref a], []⟩)
      (fun r s' => r = .ok (.ret (.bool true)) ∧ OldK s₁.heap s'.heap ∧ s'.os = s₁.os ∧ AllBare s'.gens) s₁ := by
  obtain ⟨H, only, seq, hok, here, lone⟩ := told (P := P) (w := w) inK ha hi hl
  have out : ∀ {b : Addr} {o : Obj}, s₁.heap.get? b = some o → b ≠ a → (hidT s₁.heap H).get? b = some o := fun g n => hidT_get g (Classical.byContradiction fun z => n (here _ z))
  have apart : ∀ {b : Addr} {o : Obj} {es : Array DictEntry} {ep : Nat}, s₁.heap.get? b = some o → o.data = .dict es ep → b ≠ a := fun g d z => by
    subst z
    rw [ha] at g
    cases g
    exact nomatch d
  have ns' : ∀ {b : Addr} {m : Str → Option Value}, s₁.heap.Ns b m → (hidT s₁.heap H).Ns b m := fun ⟨o, es, ep, g, d, r⟩ => ⟨o, es, ep, out g (apart g d), d, r⟩
  have inB : K.In (hidT s₁.heap H) := fun b o q => hidT_get (inK b o q) (Classical.byContradiction fun z => by
    obtain rfl := here b z
    rw [lone z] at q
    cases q)
  have free' : (hidT s₁.heap H).NoLimit := let ⟨mc, h1, h2⟩ := free; ⟨mc, ns' h1, h2⟩
  have e0 : Env0 P w K mg (hidT s₁.heap H) callerA [] s₁ H := ⟨rfl, ⟨inB, ns' names, ⟨mb, ns' hb, boot⟩, free'⟩, fun b o q => of_hidT q, Nat.le_of_eq (hidT_size _ _), trivial, fun b m => absurd (show b ∈ ([] : List Addr) from m) List.not_mem_nil, hok, .of_eq hg⟩
  refine codeAny_mono (F _ inB (ns' names) [] s₁ H ⟨[.ref a], []⟩ [.ref a] [.ref a] _ _ e0 (bind s₁ (.ref a)) (.cons rfl .nil) (want H only seq)) fun r s' got => ?_
  match r, got with
  | .error e, got => exact False.elim got
  | .ok .next, got => exact False.elim got
  | .ok .brk, got => exact False.elim got
  | .ok .cont, got => exact False.elim got
  | .ok (.ret u), ⟨v, H', os, bare, un, hok', rv, q⟩ =>
    obtain rfl : v = .bl true := q
    obtain rfl : u = Value.bool true := rv
    refine ⟨rfl, OldK.of_keep fun b o g => ?_, os, bare⟩
    rcases only b with z | ⟨ob, xs, z⟩
    · exact un.keep b o g z (fun m => absurd (show b ∈ ([] : List Addr) from m) List.not_mem_nil) List.not_mem_nil
    · obtain ⟨e1, _⟩ := hok b _ z
      obtain ⟨e2, _⟩ := hok' b _ (un.frzs b ob _ z)
      rw [g] at e1
      cases e1
      exact e2
theorem walk_top {l : PySem.W.OpenLaw} {n : Nat} {q : Program} {loose : List Str} {XP : (Str → Option Value) → Heap → Prop} {YP : World → Heap → Prop} {d : DefRec} {K : Params → PySem.W.Frag} {sp : World → Sp} {x : Str} (hn : l.most = some n) (hn2 : n ≤ sizeLine) (hdf : d.params.defaults = [])
    (hY : ∀ (w : World) (h : Heap), YP w h → (K w.params).In h)
    (F : ∀ (w : World) (mg : Str → Option Value) (fa : Addr) (h : Heap), (K w.params).In h → h.Ns mainGlobals mg → mg d.name = some (.ref fa) →
      ∃ fd : FuncData, (∀ (s : Shared) (u : Value), BindsTo s fd ⟨[u], []⟩ [(x, u)]) ∧ ∀ base : Heap, (K w.params).In base → base.Ns mainGlobals mg → RunAt l.prog w (K w.params) mg base callerA fa fd [x] (sp w))
    (want : ∀ (w : World) (H : Hp) (a : Addr) (ns : List Int), ns.length ≤ n → Only H → SqL (K w.params) H a (ns.map V.int) → sp w [.ref a] H (fun v _ => v = .bl true) fun _ _ _ => False) :
    PySem.W.WalkO q loose XP YP l.row.toRowW d [] (fun f vs => PySem.call f vs) :=
  Att.attach_call hn hdf fun w s₀ s₁ mg mb fa o pm cd doc a vs ns G Y ho hd hcd hmg hobj hints hlen hg => by
    obtain ⟨fd, hb, hF⟩ := F w mg fa _ (hY w _ Y) G.T.g hmg
    exact top_call (hY w _ Y) G.T.g G.T.b G.T.builtins G.T.nolimit hg hobj hints (Nat.le_trans hlen hn2) hF hb fun H only seq => want w H a ns hlen only seq
end KY
set_option Elab.async false
set_option linter.all false
set_option maxRecDepth 100000
set_option maxHeartbeats 4000000
namespace KY
open PySem PySem.Spec PyProof.Rows L2 Evl
local macro_rules | `(tactic| walk_at "ev") => `(tactic| repeat' (first | exact ev_c | exact ev_var rfl | exact rv_I0 | refine' rv_I ?_ | refine' rv_eq ?_ | refine' rv_ne ?_ | refine' ev_op ?_ ?_ ?_ | exact ea_nil | refine' ea_cons ?_ ?_ | refine' et_test ?_ | refine' et_B ?_ | refine' et_not ?_ | refine' ev_notV ?_))

open PySem
/-! x(e, ..), x(*e): a class that a local name holds -/
def tMakeV (i : Nat) (C : Addr) (sp : Sp) (E : XK) (t : TA) : TE := fun σ H Q => σ[i]? = some (some (.ref C)) ∧ StX.tMakeR C sp E t σ H Q
section
variable {X : Cx} {CX : CXT} {k i : Nat} {f C : Addr} {sp : Sp} {E : XK} {x : Str} {e : Expr} {es : List Expr} {te : TE} {t : TA} {p q pos : Pos}
theorem pe_makeV (M : Mk X.K C f) (F : FnR X.prog X.w X.K X.mg X.base CX k f sp) (room : Room (k + 1) X.A) (hx : Passes CX X E) (hN : X.N[i]? = some x) (hv : Vis X.env.scope x) (ha : PA X (e :: es) t) (hd : (x == ("__debug__" : Str)) = false := by decide)
    (hcd : (x == ("__classdict__" : Str)) = false := by decide) (first : starEach (e :: es) X.env = (false, eval e X.env) :: starEach es X.env := by rfl) (plain : (backTo pos (starEach es X.env)).any (·.1) = false := by rfl) :
    PE X (.Call (.Name x p) (e :: es) [] pos) (tMakeV i C sp E t) where
  run := fun pins s σ H Q I ⟨here, go⟩ => by
    refine wpAny_Call_Name_kw (thn ((pe_var (pos := p) (i := i) hN hv hd hcd).run pins s σ H (fun v H1 => v = .ref C ∧ H1 = H) I ⟨.ref C, here, rfl, rfl⟩) fun u s1 ⟨v, H1, I1, r1, ev, eH⟩ => ?_)
    subst ev eH
    obtain rfl : u = Value.ref C := r1
    exact PySem.W.callWith_K (h₀ := X.base) I.ok.mod.kin M.kp (thn (ha.run pos pins s1 σ _ _ I1 go) fun us s2 ⟨vs, H2, I2, r, want⟩ => ⟨I2.kIn, StX.run_makeR M F room hx I2 r want⟩) first plain
theorem pe_makeVS (M : Mk X.K C f) (F : FnR X.prog X.w X.K X.mg X.base CX k f sp) (room : Room (k + 1) X.A) (hx : Passes CX X E) (hN : X.N[i]? = some x) (hv : Vis X.env.scope x) (he : PE X e te) (hd : (x == ("__debug__" : Str)) = false := by decide)
    (hcd : (x == ("__classdict__" : Str)) = false := by decide) (star : starEach [.Starred e q] X.env = [(true, eval e X.env)] := by rfl) :
    PE X (.Call (.Name x p) [.Starred e q] [] pos) (tMakeV i C sp E fun σ H Q => te σ H fun y H1 => ∃ b xs, y = V.ref b ∧ (SqT X.K H1 b xs ∨ SqL X.K H1 b xs) ∧ Q xs H1) where
  run := fun pins s σ H Q I ⟨here, go⟩ => by
    refine wpAny_Call_Name_kw (thn ((pe_var (pos := p) (i := i) hN hv hd hcd).run pins s σ H (fun v H1 => v = .ref C ∧ H1 = H) I ⟨.ref C, here, rfl, rfl⟩) fun u s1 ⟨v, H1, I1, r1, ev, eH⟩ => ?_)
    subst ev eH
    obtain rfl : u = Value.ref C := r1
    refine PySem.W.callWith_S (h₀ := X.base) I.ok.mod.kin M.kp (thn (he.run pins s1 σ _ _ I1 go) fun v s2 ⟨y, H2, I2, ry, b, xs, ey, sq, want⟩ => ?_) star
    subst ey
    obtain rfl : v = Value.ref b := ry
    exact StX.star_any I2 sq fun us s3 I3 rv => ⟨I3.kIn, StX.run_makeR M F room hx I3 rv want⟩
end
/-! ### the tables of some clauses -/
abbrev Cl := Str × Str × Str
def clOk (c : Cl) : Prop := c.1 ∈ allWho ∧ c.2.1 ∈ allSign ∧ c.2.2 ∈ allw
def foldT (cs : List Cl) (k i : Nat) : Nat := cs.foldl (fun (v : Nat) (c : Cl) => tabF c.1 c.2.1 c.2.2 k v) i
theorem foldT_low : ∀ (cs : List Cl), (∀ c ∈ cs, clOk c) → ∀ k, Low (foldT cs k)
  | [], _, k => fun i h => h
  | c :: cs, ok, k => fun i h => foldT_low cs (fun d m => ok d (List.mem_cons_of_mem _ m)) k _ (tab_low (ok c (List.mem_cons_self ..)).1 k i h)
theorem foldT_snoc (cs : List Cl) (c : Cl) (k i : Nat) : foldT (cs ++ [c]) k i = tabF c.1 c.2.1 c.2.2 k (foldT cs k i) := by
  unfold foldT
  rw [List.foldl_append]
  rfl
/-- the clauses cs stand, in order, at ps -/
def ClsAt (K : PySem.W.Frag) (a : Ads) (H : Hp) (ps : List Addr) (cs : List Cl) : Prop := ps.length = cs.length ∧ ∀ (i : Nat) (p : Addr) (c : Cl), ps[i]? = some p → cs[i]? = some c → ClauseAt K a H p c.1 c.2.1 c.2.2
theorem ClsAt.mono {K : PySem.W.Frag} {a : Ads} {H H' : Hp} {ps : List Addr} {cs : List Cl} (m : ClsAt K a H ps cs) (e : Ex H H') : ClsAt K a H' ps cs := ⟨m.1, fun i p c h1 h2 => (m.2 i p c h1 h2).mono e⟩
theorem TabR.mono {K : PySem.W.Frag} {H H' : Hp} {t : Addr} {f : Nat → Nat → Nat} (h : TabR K H t f) (e : Ex H H') : TabR K H' t f := Tab.mono h e
def spTabs (K : PySem.W.Frag) (a : Ads) : Sp := fun vs H Q _ => ∃ (t : Addr) (ps : List Addr) (cs : List Cl), vs = [.ref t] ∧ SqT K H t (ps.map V.ref) ∧ ClsAt K a H ps cs ∧ (∀ c ∈ cs, clOk c) ∧ ∀ p H', Ex H H' → TabR K H' p (foldT cs) → Q (.ref p) H'
section
variable {P : Program} {w : World} {K : PySem.W.Frag} {mg : Str → Option Value} {base : Heap} {a : Ads}
theorem ok_tables_of (T : Txt w K mg a) : FnOk P w K mg base CX0 3 a.f_tables_of a.d_tables_of ["clauses"] (spTabs K a) := by
  have G_in_turn : FnOk P w K mg base CX0 1 _ _ _ _ := ok_in_turn T T.fn_in_turn
  refine T.fn_tables_of.ok sc_tables_of (fun vs H Q E h => ?_) (fun cdv A outer s H vs Q E hr h => ?_)
  · obtain ⟨_, _, _, rfl, _⟩ := h
    rfl
  · obtain ⟨t, ps, cs, rfl, ht, hc, ok, k⟩ := h
    have hrc : Room 1 _ := hr.mono (by decide)
    refine ⟨_, (pss_cons (ps_set (i := 1) sc_tables_of.nd rfl (Or.inl rfl) (pe_tup (pa_cons (pe_glob (v := .ref a.k_PATTERNS) rfl T.mg_PATTERNS rfl) (pa_cons (pe_glob (v := .ref a.k_PATTERNS) rfl T.mg_PATTERNS rfl) (pa_cons (pe_glob (v := .ref a.k_PATTERNS) rfl T.mg_PATTERNS rfl) (pa_cons (pe_glob (v := .ref a.k_PATTERNS) rfl T.mg_PATTERNS rfl) pa_nil))))))
    (pss_cons (ps_for PassesOwn.never rfl (pi_tup (pv 0)) (pg_name (i := 2) sc_tables_of.nd rfl (Or.inl rfl)) (pss_one (ps_set (i := 1) sc_tables_of.nd rfl (Or.inl rfl) (pe_call G_in_turn hrc rfl T.mg_in_turn T.fn_in_turn.kp (bd_in_turn T) .nil pass0 (pa_cons (pv 1) (pa_cons (pe_fld (pv 2) rfl) pa_nil))))))
    (pss_one (ps_ret (pv 1))))), ?_⟩
    refine q_asgU (eu_tup (ea_cons ev_c (ea_cons ev_c (ea_cons ev_c (ea_cons ev_c ea_nil)))) (by show 4 ≤ 100000; decide)) fun t0 H1 _ e1 h1 => ?_
    have row0 : ∀ H', SqT K H' a.k_PATTERNS (rowV (foldT [] 0)) := fun H' => T.t_PATTERNS H'
    refine q_forT (ev_var rfl) (ex_t e1 ht) (fun i σ' H' => ∃ tb o2, σ' = [some (.ref t), some (.ref tb), o2] ∧ TabR K H' tb (foldT (cs.take i)) ∧ Ex H H') (fun H2 e2 => ⟨_, _, rfl, ⟨_, _, _, _, st_of (e2 _ _ h1), row0 _, row0 _, row0 _, row0 _⟩, e1.trans e2⟩) (fun i σ' H' _ q => ?_) (fun i x σ' H' hx q => ?_) (fun σ' H' q => ?_)
    · obtain ⟨_, _, _, _, e⟩ := q
      exact ex_t e ht
    · obtain ⟨tb, o2, rfl, tab, e⟩ := q
      rw [List.getElem?_map] at hx
      obtain ⟨p, hp, rfl⟩ := Option.map_eq_some_iff.mp hx
      have hi : i < cs.length := by rw [← hc.1]; exact (List.getElem?_eq_some_iff.mp hp).1
      have hci : cs[i]? = some cs[i] := by simp [hi]
      have cl := (hc.2 i p cs[i] hp hci).mono e
      obtain ⟨dx, ct, ho, ctab⟩ := cl.ob
      have hA : EvA (tCons (tVar 1) (tCons (tFld K (tVar 2) "_tables") tNil)) [some (.ref t), some (.ref tb), some (.ref p)] H' [.ref tb, .ref ct] := ea_cons (ev_var rfl) (ea_cons (ev_fld (ev_var rfl) ho T.c_Clause T.n_tables_Clause (fs_tables _ _ _ ct)) ea_nil)
      show tCall (spTurn K) [] E0 (tCons (tVar 1) (tCons (tFld K (tVar 2) "_tables") tNil)) [some (.ref t), some (.ref tb), some (.ref p)] H' _
      refine hA H' (Ex.refl _) _ fun H2 e2 => ⟨tb, ct, _, fun k => tabF cs[i].1 cs[i].2.1 cs[i].2.2 k, rfl, tab.mono e2, Tab.mono ctab e2, foldT_low _ fun c m => ok c (List.mem_of_mem_take m), fun t' H3 e3 tab' => ⟨t', _, rfl, ?_, (e.trans e2).trans e3⟩⟩
      rw [show cs.take (i + 1) = cs.take i ++ [cs[i]] by rw [List.take_succ, hci]; rfl]
      have eqf : (fun k j => tabF cs[i].1 cs[i].2.1 cs[i].2.2 k (foldT (cs.take i) k j)) = foldT (cs.take i ++ [cs[i]]) := by
        funext k j
        rw [foldT_snoc]
      rw [← eqf]
      exact tab'
    · obtain ⟨tb, o2, rfl, tab, e⟩ := q
      rw [List.length_map, hc.1, List.take_length] at tab
      exact s_ret (v := .ref tb) (ev_var rfl) fun H2 e2 => k tb H2 (e.trans e2) (tab.mono e2)
end
end KY
set_option Elab.async false
set_option linter.all false
set_option maxRecDepth 100000
set_option maxHeartbeats 4000000
namespace KY
open PySem PySem.Spec PyProof.Rows L2 Evl
local macro_rules | `(tactic| walk_at "ev") => `(tactic| repeat' (first | exact ev_c | exact ev_var rfl | exact rv_I0 | refine' rv_I ?_ | refine' rv_eq ?_ | refine' rv_ne ?_ | refine' ev_op ?_ ?_ ?_ | exact ea_nil | refine' ea_cons ?_ ?_ | refine' et_test ?_ | refine' et_B ?_ | refine' et_not ?_ | refine' ev_notV ?_))

open PySem
section
variable {K : PySem.W.Frag} {σ : L2.St} {H H' : Hp} {ta tb te tx tv : TE} {t : TT} {x y z v : V} {r : R2} {D : Ends} {tz tu : TS}
theorem q_forEnS {s : Str} {i1 i2 : Nat} (h : Ev te σ H (.str s)) (Pv : Nat → L2.St → Hp → Prop) (h0 : ∀ H1, Ex H H1 → Pv 0 σ H1)
    (hs : ∀ (i c : Nat) σ' H', s.cps.toList[i]? = some c → Pv i σ' H' → ∀ H2, Ex H' H2 → tu { D with nx := Pv (i + 1), ct := Pv (i + 1), bk := tz D } ((σ'.set i1 (some (.int (i : Nat)))).set i2 (some (.str ⟨#[c]⟩))) H2) (hd : ∀ σ' H', Pv s.cps.size σ' H' → tz D σ' H') :
    tSeq (tFor (iEnS te) (gTup K 2 (gCons (gName i1) (gCons (gName i2) gNil))) tu) tz D σ H :=
  h H (Ex.refl H) _ fun H1 e1 => ⟨s, rfl, fun i m σ' H' => m = s.cps.size - i ∧ i ≤ s.cps.size ∧ Pv i σ' H', ⟨s.cps.size, by simp, Nat.zero_le _, h0 H1 e1⟩, by
    rintro i m σ' H' ⟨rfl, hi, p⟩
    by_cases hlt : i < s.cps.size
    · refine .inr ⟨hlt, Pv (i + 1), fun σ2 H2 p' => ⟨s.cps.size - (i + 1), by omega, rfl, hlt, p'⟩, ?_⟩
      rintro x H2 ⟨T, c, rfl, hT, rfl, hc⟩
      rw [← Array.getElem?_toList] at hc
      exact ⟨T, _, rfl, st_of upd_same, rfl, _, _, rfl, _, _, rfl, rfl, hs i c σ' H' hc p _ (Ex.new hT)⟩
    · have e : i = s.cps.size := by omega
      subst e
      exact .inl ⟨rfl, hd σ' H' p⟩⟩
theorem ev_slS {tl th : TO} {s : Str} {lo hi : Option Int} (h : Ev te σ H (.str s)) (h1 : EvO tl σ H lo) (h2 : EvO th σ H hi) (hz : s.length ≤ 100000) : Ev (tSl rSlS te tl th) σ H (.str (cutS s lo hi)) := fun H1 e Q q =>
  h H1 e _ fun H2 e2 => h1 H2 (e.trans e2) _ fun H3 e3 => h2 H3 ((e.trans e2).trans e3) _ fun H4 e4 => ⟨s, rfl, sz_of hz, q H4 ((e2.trans e3).trans e4)⟩
end
/-- a clause's text -/
def clT (who0 sign what : Str) : Str := ⟨who0.cps ++ sign.cps ++ what.cps⟩
def allWho0 : List Str := "a" :: allWho
def isSign (c : Nat) : Bool := inV (.str ⟨#[c]⟩) [.str "+", .str "-", .str "="]
theorem clT_facts : ∀ who0 ∈ allWho0, ∀ sign ∈ allSign, ∀ what ∈ allw, ((List.range who0.cps.size).all fun i => !isSign ((clT who0 sign what).cps.toList.getD i 0)) = true ∧ isSign ((clT who0 sign what).cps.toList.getD who0.cps.size 0) = true ∧
    (⟨#[(clT who0 sign what).cps.toList.getD who0.cps.size 0]⟩ : Str) = sign ∧ cutS (clT who0 sign what) none (some (who0.cps.size : Nat)) = who0 ∧ cutS (clT who0 sign what) (some ((who0.cps.size : Nat) + 1)) none = what ∧ who0.cps.size < (clT who0 sign what).cps.size ∧ (clT who0 sign what).length ≤ 100 := by decide +kernel
def spRead (K : PySem.W.Frag) (a : Ads) : Sp := fun vs H Q _ => ∃ (who0 who sign what : Str), vs = [.ref a.f_Clause, .str (clT who0 sign what)] ∧ (who0 = who ∨ (who0 = "a" ∧ who = "ugo")) ∧ who ∈ allWho ∧ sign ∈ allSign ∧ what ∈ allw ∧ ∀ p H', H p = none → Ex H H' → ClauseAt K a H' p who sign what → Q (.ref p) H'
section
variable {P : Program} {w : World} {K : PySem.W.Frag} {mg : Str → Option Value} {base : Heap} {a : Ads}
theorem ok_Clause_read (T : Txt w K mg a) : FnOk P w K mg base CX0 7 a.f_Clause_read a.d_Clause_read ["cls", "text"] (spRead K a) := by
  have G_Clause_init : FnOk P w K mg base CX0 5 _ _ _ _ := ok_Clause_init T
  refine T.fn_Clause_read.ok sc_Clause_read (fun vs H Q E h => ?_) (fun cdv A outer s H vs Q E hr h => ?_)
  · obtain ⟨_, _, _, _, rfl, _⟩ := h
    rfl
  · obtain ⟨who0, who, sign, what, rfl, hw0, hwho, hsign, hwhat, k⟩ := h
    have hrm : Room (5 + 1) _ := hr
    refine ⟨_, (pss_cons (ps_if (pt_not (pt_val (pe_callB call_isi (by rfl) T.b_isinstance PyProof.Rows.boot_isinstance (pa_cons (pv 1) (pa_cons (pe_bltn (v := .ty "str") (by rfl) T.b_str (by decide +kernel) rfl) pa_nil))))) (pss_one ps_never) pss_nil)
    (pss_cons (ps_for PassesOwn.never rfl (pi_enS (by rfl) T.b_enumerate (pv 1)) (pg_tup rfl (pgs_cons (pg_name (i := 2) sc_Clause_read.nd rfl (Or.inl rfl)) (pgs_cons (pg_name (i := 3) sc_Clause_read.nd rfl (Or.inl rfl)) pgs_nil))) (pss_one (ps_if (pt_cmpR op_in_seq (pv 3) (pe_glob (v := .ref a.k_SIGNS) rfl T.mg_SIGNS rfl) (by rfl)) (pss_one (ps_ret (pe_makeV (i := 0) T.mk_Clause (G_Clause_init.raw (bd_ClauseD_initD T) .nil) hrm pass0 rfl (Or.inl rfl) (pa_cons (pe_slice sl_str (pv 1) po_none (po_some (pv 2))) (pa_cons (pv 3) (pa_cons (pe_slice sl_str (pv 1) (po_some (pe_op op_add (pv 2) pe_int)) po_none) pa_nil)))))) pss_nil)))
    (pss_one ps_never))), ?_⟩
    have hin : who0 ∈ allWho0 := by
      rcases hw0 with rfl | ⟨rfl, _⟩
      · exact List.mem_cons_of_mem _ hwho
      · exact List.mem_cons_self ..
    obtain ⟨f1, f2, f3, f4, f5, f6, f7⟩ := clT_facts who0 hin sign hsign what hwhat
    refine q_when (b := false) (et_not (a := true) (et_B (ev_isi (ea_cons (ev_var rfl) (ea_cons ev_c ea_nil)) (.ty _) (fun _ _ => .base (.str _)) (kit_ty (by decide +kernel))))) (fun z => nomatch z) fun _ H1 e1 => ?_
    refine q_forEnS (K := K) (ev_var rfl) (fun i σ' H' => i ≤ who0.cps.size ∧ Ex H H' ∧ ∃ o2 o3, σ' = [some (.ref a.f_Clause), some (.str (clT who0 sign what)), o2, o3]) (fun H2 e2 => ⟨Nat.zero_le _, e1.trans e2, _, _, rfl⟩) (fun i c σ' H' hc q H2 e2 => ?_) (fun σ' H' q => ?_)
    · obtain ⟨hi, e, o2, o3, rfl⟩ := q
      have hcd : (clT who0 sign what).cps.toList.getD i 0 = c := by simp [List.getD, hc]
      refine s_when (b := isSign c) (et_test (ev_op (ev_var rfl) ev_c (rv_isT (T.t_SIGNS _) rfl rfl))) (fun hb H3 e3 => ?_) (fun hb H3 e3 => ?_)
      · have hn : i = who0.cps.size := by
          rcases Nat.lt_or_ge i who0.cps.size with lt | ge
          · have := List.all_eq_true.mp f1 i (List.mem_range.mpr lt)
            rw [hcd, hb] at this
            cases this
          · omega
        subst hn
        rw [hcd] at f3
        have hA : EvA (tCons (tSl rSlS (tVar 1) tNoPart (tPart (tVar 2))) (tCons (tVar 3) (tCons (tSl rSlS (tVar 1) (tPart (tOp (rI0 fun i j => .int (i + j)) (tVar 2) (tC (.int 1)))) tNoPart) tNil))) [some (.ref a.f_Clause), some (.str (clT who0 sign what)), some (.int (who0.cps.size : Nat)), some (.str ⟨#[c]⟩)] H3 [.str who0, .str sign, .str what] :=
          ea_cons (ev_is (ev_slS (ev_var rfl) eo_none (eo_some (ev_var rfl)) (Nat.le_trans f7 (by decide))) (congrArg V.str f4)) (ea_cons (ev_is (ev_var rfl) (congrArg V.str f3)) (ea_cons (ev_is (ev_slS (ev_var rfl) (eo_some (ev_op (ev_var rfl) ev_c rv_I0)) eo_none (Nat.le_trans f7 (by decide))) (congrArg V.str f5)) ea_nil))
        refine ⟨rfl, hA H3 (Ex.refl _) _ fun H4 e4 x dx hx hdx hne => ⟨x, dx, who0, who, sign, what, rfl, hw0, hwho, hsign, hwhat, upd_same, fun H5 k5 c5 => ⟨rfl, ?_⟩⟩⟩
        have e04 : Ex H H4 := ((e.trans e2).trans e3).trans e4
        exact k x H5 (fresh_back e04 hx) (e04.trans fun b o hb => by
          have bx := ne_of_none hb hx
          have bdx := ne_of_none hb hdx
          exact k5 b o (by rw [upd_ne bx, upd_ne bdx]; exact hb) bx) c5
      · have hn : i ≠ who0.cps.size := fun z => by
          subst z
          rw [hcd, hb] at f2
          cases f2
        exact ⟨by omega, (e.trans e2).trans e3, _, _, rfl⟩
    · obtain ⟨hi, _⟩ := q
      omega
end
end KY
set_option Elab.async false
set_option linter.all false
set_option maxRecDepth 100000
set_option maxHeartbeats 4000000
namespace KY
open PySem PySem.Spec PyProof.Rows L2 Evl
local macro_rules | `(tactic| walk_at "ev") => `(tactic| repeat' (first | exact ev_c | exact ev_var rfl | exact rv_I0 | refine' rv_I ?_ | refine' rv_eq ?_ | refine' rv_ne ?_ | refine' ev_op ?_ ?_ ?_ | exact ea_nil | refine' ea_cons ?_ ?_ | refine' et_test ?_ | refine' et_B ?_ | refine' et_not ?_ | refine' ev_notV ?_))

open PySem
/-! the items of a tuple, counted -/
theorem enum1_meets {v : Value} {o : Obj} {St : Heap → Prop} (B : Begins v o St) : Meets (Builtin.«enumerate.__new__» ⟨[.type "enumerate", v], []⟩) (fun _ R s => St s.heap ∧
    R (.ok (.ret (.ref (s.heap.push o).objs.size))) { s with heap := (s.heap.push o).push { cls := .type "enumerate", data := .fields #[.none, .bool false, .ref s.heap.objs.size, rawInt 0, .none, .none] } }) :=
  .of_wp fun prog w A R ⟨hp, gn, dr, tk, os⟩ ⟨st, go⟩ => by
    have is_a := sub_enumerate
    have it1 : ∀ {A' : Around} {E Q : Value → Shared → Prop}, Q (.ref hp.objs.size) ⟨hp.push o, gn, dr, tk, os⟩ → wpAny (model prog w) A' (pyIter v) Q E ⟨hp, gn, dr, tk, os⟩ := fun q => B.iter prog w _ _ ⟨hp, gn, dr, tk, os⟩ _ st q
    wp_walk using it1
    refine wpAny_stack_any fun stack => wpAny_pure ?_
    split
    · rename_i c _ _ _ _ _
      cases (c == Value.type "enumerate") <;> (wp_walk using it1; exact ⟨_, rfl, go⟩)
    · wp_walk using it1
      exact ⟨_, rfl, go⟩
structure CountTo (b e it : Addr) (i : Nat) (h : Heap) : Prop where
  en : ∃ old, IsEnum h e it (i : Int) old
  tup : h.IsTupleIter it b i
section
variable {b e it : Addr} {i : Nat} {h h' : Heap}
theorem CountTo.obj (q : CountTo b e it i h) : ∀ c ∈ [e, it], ∃ o, h.get? c = some o ∧ ∀ v, o.data ≠ .cell v := by
  obtain ⟨old, he⟩ := q.en
  obtain ⟨p1, g1, _, n1⟩ := q.tup
  exact two ⟨_, he, nofun⟩ ⟨p1, g1, by rw [n1]; exact nofun⟩
theorem CountTo.lt (q : CountTo b e it i h) : ∀ c ∈ [e, it], c < h.objs.size := fun c m => let ⟨_, g, _⟩ := q.obj c m; Heap.lt_size g
theorem CountTo.keep (q : CountTo b e it i h) (k : ∀ c ∈ [e, it], ∀ o, h.get? c = some o → h'.get? c = some o) : CountTo b e it i h' := by
  obtain ⟨old, he⟩ := q.en
  refine ⟨⟨old, k e ?_ _ he⟩, q.tup.at fun o e => k it ?_ o e⟩ <;> simp
end
def ItEt (K : PySem.W.Frag) (b : Addr) : It :=
  ⟨fun i H => ∃ (ys : List V) (y : V), SqT K H b ys ∧ ys[i]? = some y, fun i H v H' => ∃ (T : Addr) (y : V), v = .ref T ∧ H T = none ∧ H' = upd H T (.tup [.int (i : Nat), y]) ∧ ∀ ys, SqT K H b ys → ys[i]? = some y, fun i H => ∃ ys : List V, SqT K H b ys ∧ i = ys.length⟩
theorem turn_enT {P : Program} {w : World} {K : PySem.W.Frag} {elts : List Expr} {kk : Nat} {tpos : Pos} {b e it : Addr} (ne : e ≠ it) (hb : b ≠ it) (hbe : e ≠ b) :
    Turn P w K (.Tuple elts kk tpos) (ItEt K b) [e, it] e (CountTo b e it) where
  mem := List.mem_cons_self ..
  obj := fun _ _ q => q.obj
  keep := fun _ _ _ q k => q.keep k
  self := fun _ _ _ _ _ q k => let ⟨_, he⟩ := q.en; wpAny_pyIter_enum he k
  item := by
    intro X e1 e2 e3 calm i pins s σ H E I free st more
    subst e1 e2 e3
    have quiet : X.A.in1.handled = none := I.ok.hd calm
    obtain ⟨ys, y, seq, hy⟩ := more
    obtain ⟨us, ru, isT, _⟩ := I.tuple seq
    obtain ⟨u, hu, ry⟩ := ru.get hy
    obtain ⟨old, he⟩ := st.en
    have in1 : i < us.toArray.size := by simpa using (List.getElem?_eq_some_iff.mp hu).1
    refine wpAny_pyNext_enum_itemC (Draws.tuple quiet it b hb us.toArray) he ⟨st.tup, isT⟩ in1 ne (fun m => by
      rcases List.mem_cons.mp m with z | m
      · exact ne z
      · exact hbe (List.mem_singleton.mp m)) fun w1 g tk src out s1 gT _ rest => ?_
    obtain rfl : u = w1 := Option.some.inj ((show us.toArray[i]? = some u by simpa using hu).symm.trans src)
    have elt := st.lt e (List.mem_cons_self ..)
    refine ⟨_, rfl, wpAny_letOwnedTupleGo_enum (s := { s with heap := g, toks := tk + 1 }) out fun g' en' but => ?_⟩
    have gT' := (but.2 _ (Nat.ne_of_gt elt)).trans gT
    have pair : ObjOk X.prog X.w (upd H s.heap.objs.size (.tup [.int (i : Nat), y])) g' s.heap.objs.size (.tup [.int (i : Nat), y]) := ⟨by show 2 ≤ sizeLine; decide, [.int (i : Nat) tk, u], .cons ⟨tk, rfl⟩ (.cons ry .nil), ⟨_, gT', rfl, _, rfl⟩⟩
    have far : ∀ c' o, c' ∉ [e, it] → s.heap.get? c' = some o → g'.get? c' = some o := fun c' o n q => by
      obtain ⟨n1, n2⟩ := off2 n
      exact (but.2 c' n1).trans (rest c' o n1 n2 q)
    refine ⟨.ref s.heap.objs.size, _, I.turnedNew (t' := tk + 1) (ch := [e, it]) far free (Nat.le_refl _) pair, rfl, ⟨_, y, rfl, I.hok.fresh (Nat.le_refl _), rfl, fun l hl => by rw [I.tuple_inj hl seq]; exact hy⟩, ?_, fun c' m => ?_⟩
    · refine ⟨⟨u, ?_⟩, s1.1.at fun o q => (but.2 _ ne.symm).trans q⟩
      rw [show ((i + 1 : Nat) : Int) = (i : Int) + 1 by omega]
      exact en'
    · exact (upd_ne (Nat.ne_of_lt (st.lt c' m))).trans (free c' m).1
  done := by
    intro X e1 e2 e3 calm i pins s σ H E I free st over
    subst e1 e2 e3
    obtain ⟨ys, seq, rfl⟩ := over
    obtain ⟨us, ru, isT, _⟩ := I.tuple seq
    have quiet : X.A.in1.handled = none := I.ok.hd calm
    have size : us.toArray.size = ys.length := by rw [ru.length]; simp
    obtain ⟨old, he⟩ := st.en
    refine wpAny_pyNext_enum_endD (Draws.tuple quiet it b hb us.toArray) he ⟨?_, isT⟩ fun g rest => ⟨rfl, I.turnedL (t' := s.toks) (ch := [e, it]) (fun c o n q => rest c o (off2 n).2 q) free⟩
    rw [size]
    exact st.tup
def iEnT (K : PySem.W.Frag) (te : TE) : TI := fun σ H R => te σ H fun v H1 => ∃ b ys, v = .ref b ∧ SqT K H1 b ys ∧ R (ItEt K b) H1
theorem pi_enT {X : Cx} {d : Expr} {te : TE} {p pos tpos : Pos} {elts : List Expr} {kk : Nat} (hg : Gl X "enumerate") (hm : X.mg "enumerate" = none) (ha : PE X d te) (flat : starEach [d] X.env = (false, eval d X.env) :: starEach [] X.env := by rfl)
    (plain : (backTo pos (starEach [] X.env)).any (·.1) = false := by rfl) : PI X (.Tuple elts kk tpos) (.Call (.Name "enumerate" p) [d] [] pos) (iEnT X.K te) where
  run := fun pins s σ H R I start => by
    have one : PA X [d] (tCons te tNil) := pa_cons (hs := flat) ha pa_nil
    refine Call_ (ld_blt I hg hm PyProof.Rows.boot_enumerate (PyProof.Rows.callWith_type1 (thn (one.run pos pins s σ H (fun vs H1 => ∃ b ys, vs = [.ref b] ∧ SqT X.K H1 b ys ∧ R (ItEt X.K b) H1) I ?st) fun us s1 ⟨vs, H1, J, r, q⟩ => ?_) flat plain))
    case st =>
      show te σ H fun v H1 => ∃ b ys, [v] = [V.ref b] ∧ SqT X.K H1 b ys ∧ R (ItEt X.K b) H1
      have : (fun v H1 => ∃ b ys, v = V.ref b ∧ SqT X.K H1 b ys ∧ R (ItEt X.K b) H1) = fun v H1 => ∃ b ys, [v] = [V.ref b] ∧ SqT X.K H1 b ys ∧ R (ItEt X.K b) H1 := by
        funext v H1
        simp
      rw [← this]
      exact start
    obtain ⟨b, ys, ev, seq, go⟩ := q
    subst ev
    cases r with | cons q1 q2 => ?_
    cases q2
    cases q1
    obtain ⟨ws, _, isT, _⟩ := J.tuple seq
    have bl : b < s1.heap.objs.size := let ⟨_, ho, _⟩ := id isT; Heap.lt_size ho
    have young : ∀ j, FpOk X pins H1 (s1.heap.objs.size + j) := fun j => J.fpOk (Nat.le_add_right ..) (J.hok.fresh (Nat.le_add_right ..))
    refine callType_new F.called_enumerate (by decide) (F.typeCall_enumerate_1 _) (F.newCall_enumerate_1 _) (fun obj => F.args_object_init_2 obj _) F.entry_enumerate_new (enum1_meets (begins_tuple b ws.toArray)) ⟨show s1.heap.IsTuple b ws.toArray from isT, ?_⟩
    have size : (s1.heap.push { cls := .type "tuple_iterator", data := .fields #[.ref b, .int 0 0] }).objs.size = s1.heap.objs.size + 1 := Heap.size_push ..
    show _ ∧ _
    rw [size]
    have new := Heap.get?_push_size (s1.heap.push { cls := .type "tuple_iterator", data := .fields #[.ref b, .int 0 0] }) (o := { cls := .type "enumerate", data := .fields #[.none, .bool false, .ref s1.heap.objs.size, rawInt 0, .none, .none] }) rfl
    rw [size] at new
    refine ⟨⟨_, new, rfl⟩, wpAny_pyIter_enum new ?_⟩
    exact ⟨s1.heap.objs.size + 1, _, CountTo b (s1.heap.objs.size + 1) s1.heap.objs.size, ItEt X.K b, H1, rfl, J.kept (t' := s1.toks) fun c o q => Heap.get?_push_of_some _ (Heap.get?_push_of_some _ q), turn_enT (Nat.succ_ne_self _) (Nat.ne_of_lt bl) (Nat.ne_of_gt (Nat.lt_succ_of_lt bl)), ⟨⟨_, new⟩, ⟨_, Heap.get?_push_of_some _ (Heap.get?_push_size _ rfl), rfl, rfl⟩⟩, two (young 1) (young 0), go⟩
end KY
set_option Elab.async false
set_option linter.all false
set_option maxRecDepth 100000
set_option maxHeartbeats 4000000
namespace KY
open PySem PySem.Spec PyProof.Rows L2 Evl
local macro_rules | `(tactic| walk_at "ev") => `(tactic| repeat' (first | exact ev_c | exact ev_var rfl | exact rv_I0 | refine' rv_I ?_ | refine' rv_eq ?_ | refine' rv_ne ?_ | refine' ev_op ?_ ?_ ?_ | exact ea_nil | refine' ea_cons ?_ ?_ | refine' et_test ?_ | refine' et_B ?_ | refine' et_not ?_ | refine' ev_notV ?_))

open PySem
section
variable {K : PySem.W.Frag} {σ : L2.St} {H H' : Hp} {ta tb te tx tv : TE} {t : TT} {x y z v : V} {r : R2} {D : Ends} {tz tu : TS}
theorem ev_lenT {p : Addr} {xs : List V} (h : Ev ta σ H (.ref p)) (seq : SqT K H p xs) : Ev (tCB (rLenS K) (tCons ta tNil)) σ H (.int (xs.length : Nat)) := fun H1 e Q q => h H1 e _ fun H2 e2 => ⟨p, xs, rfl, .inr (ex_t (e.trans e2) seq), q H2 e2⟩
theorem q_forEnT {b : Addr} {ys : List V} {i1 i2 : Nat} (h : Ev te σ H (.ref b)) (seq : SqT K H b ys) (Pv : Nat → L2.St → Hp → Prop) (h0 : ∀ H1, Ex H H1 → Pv 0 σ H1) (up : ∀ i σ' H', Pv i σ' H' → Ex H H')
    (hs : ∀ (i : Nat) (y : V) σ' H', ys[i]? = some y → Pv i σ' H' → ∀ H2, Ex H' H2 → tu { D with nx := Pv (i + 1), ct := Pv (i + 1), bk := tz D } ((σ'.set i1 (some (.int (i : Nat)))).set i2 (some y)) H2) (hd : ∀ σ' H', Pv ys.length σ' H' → tz D σ' H') :
    tSeq (tFor (iEnT K te) (gTup K 2 (gCons (gName i1) (gCons (gName i2) gNil))) tu) tz D σ H :=
  h H (Ex.refl H) _ fun H1 e1 => ⟨b, ys, rfl, ex_t e1 seq, fun i m σ' H' => m = ys.length - i ∧ i ≤ ys.length ∧ Pv i σ' H', ⟨ys.length, by simp, Nat.zero_le _, h0 H1 e1⟩, by
    rintro i m σ' H' ⟨rfl, hi, p⟩
    have now : SqT K H' b ys := ex_t (up i σ' H' p) seq
    by_cases hlt : i < ys.length
    · refine .inr ⟨⟨ys, ys[i], now, by simp [hlt]⟩, Pv (i + 1), fun σ2 H2 p' => ⟨ys.length - (i + 1), by omega, rfl, hlt, p'⟩, ?_⟩
      rintro x H2 ⟨T, y, rfl, hT, rfl, hy⟩
      exact ⟨T, _, rfl, st_of upd_same, rfl, _, _, rfl, _, _, rfl, rfl, hs i y σ' H' (hy ys now) p _ (Ex.new hT)⟩
    · have e : i = ys.length := by omega
      subst e
      exact .inl ⟨⟨ys, now, rfl⟩, hd σ' H' p⟩⟩
end
theorem exb_t {K : PySem.W.Frag} {H H' : Hp} {p C dx b : Addr} {fs : List (Str × V)} {xs : List V} (e : ExB p H H') (hp : H p = some (.ins C dx fs)) (h : SqT K H b xs) : SqT K H' b xs := by
  rcases h with (h | ⟨ob, h⟩) | h
  · exact .inl (.inl (e _ _ h fun z => by rw [z, hp] at h; cases h))
  · exact .inl (.inr ⟨ob, e _ _ h fun z => by rw [z, hp] at h; cases h⟩)
  · exact .inr h
theorem exb_tab {K : PySem.W.Frag} {H H' : Hp} {p C dx t : Addr} {fs : List (Str × V)} {f : Nat → Nat → Nat} (e : ExB p H H') (hp : H p = some (.ins C dx fs)) (h : TabR K H t f) : TabR K H' t f := by
  obtain ⟨t0, t1, t2, t3, h, h0, h1, h2, h3⟩ := h
  exact ⟨t0, t1, t2, t3, exb_t e hp h, exb_t e hp h0, exb_t e hp h1, exb_t e hp h2, exb_t e hp h3⟩
theorem ClauseAt.exb {K : PySem.W.Frag} {a : Ads} {H H' : Hp} {p q C dx : Addr} {fs : List (Str × V)} {who sign what : Str} (m : ClauseAt K a H q who sign what) (e : ExB p H H') (hp : H p = some (.ins C dx fs)) (hw : fs.lookup ("_who" : Str) = none) : ClauseAt K a H' q who sign what := by
  obtain ⟨d2, t, ho, tab⟩ := m.ob
  refine ⟨⟨d2, t, e _ _ ho fun z => ?_, exb_tab (f := fun k => tabF who sign what k) e hp tab⟩⟩
  subst z
  rw [hp] at ho
  cases ho
  rw [fs_who] at hw
  cases hw
theorem ClsAt.exb {K : PySem.W.Frag} {a : Ads} {H H' : Hp} {p C dx : Addr} {fs : List (Str × V)} {ps : List Addr} {cs : List Cl} (m : ClsAt K a H ps cs) (e : ExB p H H') (hp : H p = some (.ins C dx fs)) (hw : fs.lookup ("_who" : Str) = none) : ClsAt K a H' ps cs :=
  ⟨m.1, fun i q c h1 h2 => (m.2 i q c h1 h2).exb e hp hw⟩
/-- a change of the clauses cs stands at p -/
def ChangeAt (K : PySem.W.Frag) (a : Ads) (H : Hp) (p : Addr) (cs : List Cl) : Prop :=
  ∃ (dx ct tt : Addr) (ps : List Addr), H p = some (.ins a.f_Change dx (putF "_tables" (.ref tt) (putF "_clauses" (.ref ct) []))) ∧ SqT K H ct (ps.map V.ref) ∧ ClsAt K a H ps cs ∧ TabR K H tt (foldT cs)
theorem ChangeAt.mono {K : PySem.W.Frag} {a : Ads} {H H' : Hp} {p : Addr} {cs : List Cl} (m : ChangeAt K a H p cs) (e : Ex H H') : ChangeAt K a H' p cs := by
  obtain ⟨dx, ct, tt, ps, h1, h2, h3, h4⟩ := m
  exact ⟨dx, ct, tt, ps, e _ _ h1, ex_t e h2, h3.mono e, h4.mono e⟩
def spCInit (K : PySem.W.Frag) (a : Ads) : Sp := fun vs H Q _ => ∃ (p dx ct : Addr) (ps : List Addr) (cs : List Cl), vs = [.ref p, .ref ct] ∧ H ct = some (.tup (ps.map V.ref)) ∧ ClsAt K a H ps cs ∧ (∀ c ∈ cs, clOk c) ∧ 0 < cs.length ∧ cs.length ≤ 8 ∧ H p = some (.ins a.f_Change dx []) ∧
  ∀ H', ExB p H H' → ChangeAt K a H' p cs → Q .non H'
theorem bindV8 {fd : FuncData} {pa pv : Str} (h0 : ∀ u, bindArgs fd ⟨[u], []⟩ = (newTuple [] >>= fun t => pure [(pa, u), (pv, t)]))
    (h1 : ∀ u a, bindArgs fd ⟨[u, a], []⟩ = (newTuple [a] >>= fun t => pure [(pa, u), (pv, t)]))
    (h2 : ∀ u a b, bindArgs fd ⟨[u, a, b], []⟩ = (newTuple [a, b] >>= fun t => pure [(pa, u), (pv, t)]))
    (h3 : ∀ u a b c, bindArgs fd ⟨[u, a, b, c], []⟩ = (newTuple [a, b, c] >>= fun t => pure [(pa, u), (pv, t)]))
    (h4 : ∀ u a b c d, bindArgs fd ⟨[u, a, b, c, d], []⟩ = (newTuple [a, b, c, d] >>= fun t => pure [(pa, u), (pv, t)]))
    (h5 : ∀ u a b c d e, bindArgs fd ⟨[u, a, b, c, d, e], []⟩ = (newTuple [a, b, c, d, e] >>= fun t => pure [(pa, u), (pv, t)]))
    (h6 : ∀ u a b c d e f, bindArgs fd ⟨[u, a, b, c, d, e, f], []⟩ = (newTuple [a, b, c, d, e, f] >>= fun t => pure [(pa, u), (pv, t)]))
    (h7 : ∀ u a b c d e f g, bindArgs fd ⟨[u, a, b, c, d, e, f, g], []⟩ = (newTuple [a, b, c, d, e, f, g] >>= fun t => pure [(pa, u), (pv, t)]))
    (h8 : ∀ u a b c d e f g h, bindArgs fd ⟨[u, a, b, c, d, e, f, g, h], []⟩ = (newTuple [a, b, c, d, e, f, g, h] >>= fun t => pure [(pa, u), (pv, t)])) :
    ∀ (u : Value) (rest : List Value), rest.length ≤ 8 → bindArgs fd ⟨u :: rest, []⟩ = (newTuple rest >>= fun t => pure [(pa, u), (pv, t)])
  | u, [], _ => h0 u 
  | u, [a], _ => h1 u a
  | u, [a, b], _ => h2 u a b
  | u, [a, b, c], _ => h3 u a b c
  | u, [a, b, c, d], _ => h4 u a b c d
  | u, [a, b, c, d, e], _ => h5 u a b c d e
  | u, [a, b, c, d, e, f], _ => h6 u a b c d e f
  | u, [a, b, c, d, e, f, g], _ => h7 u a b c d e f g
  | u, [a, b, c, d, e, f, g, h], _ => h8 u a b c d e f g h
  | _, _ :: _ :: _ :: _ :: _ :: _ :: _ :: _ :: _ :: r, h => absurd h (by simp only [List.length_cons]; omega)
theorem scCh : FnScope n_ChangeD_initD ((["self"] : List Str) ++ [("clauses" : Str)]) (defScope s_ChangeD_initD) := ⟨rfl, rfl, rfl, by decide +kernel, rfl, by decide +kernel, by decide +kernel⟩
section
variable {P : Program} {w : World} {K : PySem.W.Frag} {mg : Str → Option Value} {base : Heap} {a : Ads}
theorem tyx_clause (T : Txt w K mg a) {H : Hp} {p : Addr} {who sign what : Str} (m : ClauseAt K a H p who sign what) : TyX K H (.ref p) (.ref a.f_Clause) := by
  obtain ⟨dx, t, h, _⟩ := m.ob
  exact .base (.ins h T.c_Clause T.ia_Clause T.in_ T.it_ T.im_Clause)
theorem ok_Change_init (T : Txt w K mg a) : FnR P w K mg base CX0 4 a.f_ChangeD_initD (fun vs H Q E => ∃ v rest, vs = v :: rest ∧ rest.length ≤ 8 ∧ ∀ p, H p = none → spCInit K a [v, .ref p] (upd H p (.tup rest)) Q E) := by
  have G_tables_of : FnOk P w K mg base CX0 3 _ _ _ _ := ok_tables_of T
  obtain ⟨oc, od, kV, doc, pm, an, cdv, ct0, osl, e0, lk, hcd⟩ := T.fn_ChangeD_initD.ex
  rw [e0] at lk
  refine fn_ofV (pa := "self") (pv := "clauses") (nmax := 8) lk hcd scCh (Nat.le_of_lt (small1000 (by decide))) (bindV8 (fun _ => rfl) (fun _ _ => rfl) (fun _ _ _ => rfl) (fun _ _ _ _ => rfl) (fun _ _ _ _ _ => rfl) (fun _ _ _ _ _ _ => rfl) (fun _ _ _ _ _ _ _ => rfl) (fun _ _ _ _ _ _ _ _ => rfl) (fun _ _ _ _ _ _ _ _ _ => rfl)) (fun _ _ _ _ _ _ _ _ _ _ _ _ z => z) fun A outer s H vs Q E hr h => ?_
  obtain ⟨p, dx, ct, ps, cs, rfl, hct, cls, ok, pos, most, hp, k⟩ := h
  have seq : SqT K H ct (ps.map V.ref) := st_of hct
  have hrc : Room 3 _ := hr
  obtain ⟨tm, hm⟩ := T.k_Change_MOST
  refine ⟨_, (show PSs (cxOf CX0 P w K mg base n_ChangeD_initD "Change.__init__" (defScope s_ChangeD_initD) a.f_ChangeD_initD cdv A outer s H E).nox (defBody s_ChangeD_initD) _ from (pss_cons (ps_if (pt_cmpR op_gt (pe_callB call_len_seq (by rfl) T.b_len PySem.boot_len (pa_cons (pv 1) pa_nil)) (ClX.pe_cval (pe_glob (v := .ref a.f_Change) rfl T.mg_Change rfl)) (nomark _)) (pss_one ps_never) pss_nil)
    (pss_cons (ps_if (pt_cmpR op_eq (pe_callB call_len_seq (by rfl) T.b_len PySem.boot_len (pa_cons (pv 1) pa_nil)) pe_int (nomark _)) (pss_one ps_never) pss_nil)
    (pss_cons (ps_for PassesOwn.never rfl (pi_enT (by rfl) T.b_enumerate (pv 1)) (pg_tup rfl (pgs_cons (pg_name (i := 2) scCh.nd rfl (Or.inl rfl)) (pgs_cons (pg_name (i := 3) scCh.nd rfl (Or.inl rfl)) pgs_nil))) (pss_one (ps_if (pt_not (pt_val (pe_callB call_isi (by rfl) T.b_isinstance PyProof.Rows.boot_isinstance (pa_cons (pv 3) (pa_cons (pe_glob (v := .ref a.f_Clause) rfl T.mg_Clause rfl) pa_nil))))) (pss_one ps_never) pss_nil)))
    (pss_cons (ps_fld (pv 0) (pv 1) rfl)
    (pss_one (ps_fld (pv 0) (pe_call G_tables_of hrc rfl T.mg_tables_of T.fn_tables_of.kp (bd_tables_of T) .nil pass0 (pa_cons (pv 1) pa_nil)) rfl))))))).nox, ?_⟩
  have len : (ps.map V.ref).length = cs.length := by rw [List.length_map, cls.1]
  refine q_when (b := false) (et_is (et_test (ev_op (ev_lenT (K := K) (ev_var rfl) seq) (ev_cval ev_c T.r_Change hm) rv_I0)) (by rw [len]; exact decide_eq_false (by omega))) (fun z => nomatch z) fun _ H1 e1 => ?_
  refine q_when (b := false) (et_is (et_test (ev_op (ev_lenT (K := K) (ev_var rfl) (ex_t e1 seq)) ev_c (rv_eq rfl))) (by rw [len]; exact decide_eq_false (fun z => by injection z with z; omega))) (fun z => nomatch z) fun _ H2 e2 => ?_
  have e02 : Ex H H2 := e1.trans e2
  refine q_forEnT (K := K) (ev_var rfl) (ex_t e02 seq) (fun i σ' H' => Ex H2 H' ∧ ∃ o2 o3, σ' = [some (.ref p), some (.ref ct), o2, o3]) (fun H3 e3 => ⟨e3, _, _, rfl⟩) (fun i σ' H' q => q.1) (fun i y σ' H' hy q H3 e3 => ?_) (fun σ' H' q => ?_)
  · obtain ⟨e, o2, o3, rfl⟩ := q
    rw [List.getElem?_map] at hy
    obtain ⟨c, hc, rfl⟩ := Option.map_eq_some_iff.mp hy
    have hi : i < cs.length := by rw [← cls.1]; exact (List.getElem?_eq_some_iff.mp hc).1
    have cl := (cls.2 i c cs[i] hc (by simp [hi])).mono ((e02.trans e).trans e3)
    exact s_when (b := false) (et_not (a := true) (et_B (ev_isi (ea_cons (ev_var rfl) (ea_cons ev_c ea_nil)) (.own _) (fun H' e' => tyx_clause T (cl.mono e')) T.is_Clause))) (fun z => nomatch z) fun _ H4 e4 => ⟨(e.trans e3).trans e4, _, _, rfl⟩
  · obtain ⟨e, o2, o3, rfl⟩ := q
    have e03 : Ex H H' := e02.trans e
    refine q_fld (y := .ref ct) (ev_var rfl) (ev_var rfl) (e03 _ _ hp) T.c_Change T.n_clauses_Change (by show 0 < 1000; decide) fun H4 b4 hp4 => ?_
    have ctp : ct ≠ p := fun z => by rw [z, hp] at hct; cases hct
    have cls4 : ClsAt K a H4 ps cs := (cls.mono e03).exb b4 (e03 _ _ hp) rfl
    refine ⟨.ref ct, rfl, ct, ps, cs, rfl, st_of (b4 _ _ (e03 _ _ hct) ctp), cls4, ok, fun tt H5 e5 tab => ⟨_, rfl, p, a.f_Change, dx, _, rfl, e5 _ _ hp4, T.c_Change, T.n_tables_Change, by exact Nat.lt_of_le_of_lt (length_putF _ _ _) (by decide), ?_⟩⟩
    have b5 : ExB p H5 (upd H5 p (.ins a.f_Change dx (putF "_tables" (.ref tt) (putF "_clauses" (.ref ct) [])))) := fun b o hb ne => by rw [upd_ne ne]; exact hb
    have hw : (putF "_clauses" (V.ref ct) []).lookup ("_who" : Str) = none := by
      rw [lookup_putF, if_neg (by decide +kernel)]
      rfl
    exact k _ (((ExB.of e03).trans b4).trans ((ExB.of e5).trans b5)) ⟨dx, ct, tt, ps, upd_same, exb_t b5 (e5 _ _ hp4) (st_of (e5 _ _ (b4 _ _ (e03 _ _ hct) ctp))), (cls4.mono e5).exb b5 (e5 _ _ hp4) hw, exb_tab b5 (e5 _ _ hp4) tab⟩
end
end KY
set_option Elab.async false
set_option linter.all false
set_option maxRecDepth 100000
set_option maxHeartbeats 4000000
namespace KY
open PySem PySem.Spec PyProof.Rows L2 Evl
local macro_rules | `(tactic| walk_at "ev") => `(tactic| repeat' (first | exact ev_c | exact ev_var rfl | exact rv_I0 | refine' rv_I ?_ | refine' rv_eq ?_ | refine' rv_ne ?_ | refine' ev_op ?_ ?_ ?_ | exact ea_nil | refine' ea_cons ?_ ?_ | refine' et_test ?_ | refine' et_B ?_ | refine' et_not ?_ | refine' ev_notV ?_))

open PySem
section
variable {K : PySem.W.Frag} {σ : L2.St} {H H' : Hp} {ta tb te tx tv : TE} {t : TT} {x y z v : V} {r : R2} {D : Ends} {tz tu : TS}
theorem q_forEnL {b : Addr} {ys : List V} {i1 i2 : Nat} {ta : TA} (h : EvA ta σ H [.ref b]) (Pv : Nat → L2.St → Hp → Prop) (h0 : ∀ H1, Ex H H1 → Pv 0 σ H1) (now : ∀ i σ' H', Pv i σ' H' → H' b = some (.lst ys)) (seq : H b = some (.lst ys))
    (hs : ∀ (i : Nat) (y : V) σ' H', ys[i]? = some y → Pv i σ' H' → ∀ H2, Ex H' H2 → tu { D with nx := Pv (i + 1), ct := Pv (i + 1), bk := tz D } ((σ'.set i1 (some (.int (i : Nat)))).set i2 (some y)) H2) (hd : ∀ σ' H', Pv ys.length σ' H' → tz D σ' H') :
    tSeq (tFor (iEnum K ta) (gTup K 2 (gCons (gName i1) (gCons (gName i2) gNil))) tu) tz D σ H :=
  h H (Ex.refl H) _ fun H1 e1 => ⟨b, ys, rfl, sq_of (e1 _ _ seq), fun i m σ' H' => m = ys.length - i ∧ i ≤ ys.length ∧ Pv i σ' H', ⟨ys.length, by simp, Nat.zero_le _, h0 H1 e1⟩, by
    rintro i m σ' H' ⟨rfl, hi, p⟩
    have here : SqL K H' b ys := sq_of (now i σ' H' p)
    by_cases hlt : i < ys.length
    · refine .inr ⟨⟨ys, ys[i], here, by simp [hlt]⟩, Pv (i + 1), fun σ2 H2 p' => ⟨ys.length - (i + 1), by omega, rfl, hlt, p'⟩, ?_⟩
      rintro x H2 ⟨T, y, rfl, hT, rfl, hy⟩
      exact ⟨T, _, rfl, st_of upd_same, rfl, _, _, rfl, _, _, rfl, rfl, hs i y σ' H' (hy ys here) p _ (Ex.new hT)⟩
    · have e : i = ys.length := by omega
      subst e
      exact .inl ⟨⟨ys, here, Nat.le_refl _⟩, hd σ' H' p⟩⟩
end
/-! a list that grows leaves the rest as it is -/
section
variable {K : PySem.W.Frag} {a : Ads} {H H' : Hp} {p q b t : Addr} {zs xs : List V} {f : Nat → Nat → Nat} {who sign what : Str} {ps : List Addr} {cs : List Cl}
theorem grow_t (e : ExB p H H') (hp : H p = some (.lst zs)) (h : SqT K H b xs) : SqT K H' b xs := by
  rcases h with (h | ⟨ob, h⟩) | h
  · exact .inl (.inl (e _ _ h fun z => by rw [z, hp] at h; cases h))
  · exact .inl (.inr ⟨ob, e _ _ h fun z => by rw [z, hp] at h; cases h⟩)
  · exact .inr h
theorem grow_tab (e : ExB p H H') (hp : H p = some (.lst zs)) (h : TabR K H t f) : TabR K H' t f := by
  obtain ⟨t0, t1, t2, t3, h, h0, h1, h2, h3⟩ := h
  exact ⟨t0, t1, t2, t3, grow_t e hp h, grow_t e hp h0, grow_t e hp h1, grow_t e hp h2, grow_t e hp h3⟩
theorem ClauseAt.grow (m : ClauseAt K a H q who sign what) (e : ExB p H H') (hp : H p = some (.lst zs)) : ClauseAt K a H' q who sign what := by
  obtain ⟨d2, t, ho, tab⟩ := m.ob
  exact ⟨⟨d2, t, e _ _ ho (fun z => by rw [z, hp] at ho; cases ho), grow_tab (f := fun k => tabF who sign what k) e hp tab⟩⟩
theorem ClsAt.grow (m : ClsAt K a H ps cs) (e : ExB p H H') (hp : H p = some (.lst zs)) : ClsAt K a H' ps cs := ⟨m.1, fun i q c h1 h2 => (m.2 i q c h1 h2).grow e hp⟩
theorem ClsAt.snoc {c : Cl} (m : ClsAt K a H ps cs) (h : ClauseAt K a H q c.1 c.2.1 c.2.2) : ClsAt K a H (ps ++ [q]) (cs ++ [c]) := by
  refine ⟨by rw [List.length_append, List.length_append, m.1] <;> rfl, fun i r d h1 h2 => ?_⟩
  by_cases hi : i < ps.length
  · rw [List.getElem?_append_left hi] at h1
    rw [List.getElem?_append_left (by rw [← m.1]; exact hi)] at h2
    exact m.2 i r d h1 h2
  · have hj : i = ps.length := by
      have := (List.getElem?_eq_some_iff.mp h1).1
      rw [List.length_append] at this
      have e1 : ([q] : List Addr).length = 1 := rfl
      omega
    subst hj
    rw [List.getElem?_append_right (Nat.le_refl _), Nat.sub_self] at h1
    rw [m.1, List.getElem?_append_right (Nat.le_refl _), Nat.sub_self] at h2
    obtain rfl : q = r := Option.some.inj h1
    obtain rfl : c = d := Option.some.inj h2
    exact h
end
/-- a clause's own text -/
def clText (c : Cl) : Str := clT (if c.1 = "ugo" then "a" else c.1) c.2.1 c.2.2
def spCRead (K : PySem.W.Frag) (a : Ads) : Sp := fun vs H Q _ => ∃ (s : Str) (cs : List Cl), vs = [.ref a.f_Change, .str s] ∧ Txt.split s "," = cs.map clText ∧ s.length ≤ 1000 ∧ (∀ c ∈ cs, clOk c) ∧ 0 < cs.length ∧ cs.length ≤ 8 ∧ ∀ p H', H p = none → Ex H H' → ChangeAt K a H' p cs → Q (.ref p) H'
section
variable {P : Program} {w : World} {K : PySem.W.Frag} {mg : Str → Option Value} {base : Heap} {a : Ads}
theorem ok_Change_read (T : Txt w K mg a) : FnOk P w K mg base CX0 8 a.f_Change_read a.d_Change_read ["cls", "text"] (spCRead K a) := by
  have G_Clause_read : FnOk P w K mg base CX0 7 _ _ _ _ := ok_Clause_read T
  have G_Change_init : FnR P w K mg base CX0 6 _ _ := (ok_Change_init T).mono (by decide)
  refine T.fn_Change_read.ok sc_Change_read (fun vs H Q E h => ?_) (fun cdv A outer s0 H vs Q E hr h => ?_)
  · obtain ⟨_, _, rfl, _⟩ := h
    rfl
  · obtain ⟨s, cs, rfl, hsp, hlen, ok, pos, most, k⟩ := h
    have hrc : Room 7 _ := hr
    have hrm : Room (6 + 1) _ := hr
    obtain ⟨tm, hm⟩ := T.k_Change_MOST
    refine ⟨_, (pss_cons (ps_if (pt_not (pt_val (pe_callB call_isi (by rfl) T.b_isinstance PyProof.Rows.boot_isinstance (pa_cons (pv 1) (pa_cons (pe_bltn (v := .ty "str") (by rfl) T.b_str (by decide +kernel) rfl) pa_nil))))) (pss_one ps_never) pss_nil)
    (pss_cons (ps_set (i := 2) sc_Change_read.nd rfl (Or.inl rfl) (pe_split (pv 1) pe_str))
    (pss_cons (ps_if (pt_cmpR op_gt (pe_callB call_len_seq (by rfl) T.b_len PySem.boot_len (pa_cons (pv 2) pa_nil)) (ClX.pe_cval (pe_glob (v := .ref a.f_Change) rfl T.mg_Change rfl)) (nomark _)) (pss_one ps_never) pss_nil)
    (pss_cons (ps_set (i := 3) sc_Change_read.nd rfl (Or.inl rfl) (pe_lst pa_nil))
    (pss_cons (ps_for PassesOwn.never rfl (pi_enum (by rfl) T.b_enumerate (pa_cons (pv 2) pa_nil)) (pg_tup rfl (pgs_cons (pg_name (i := 4) sc_Change_read.nd rfl (Or.inl rfl)) (pgs_cons (pg_name (i := 5) sc_Change_read.nd rfl (Or.inl rfl)) pgs_nil))) (pss_one (ps_try_only (tb := fun _ => tDrop (tBM K "list" rAppend (tVar 3) (tCons (ClX.tCMeth a.f_Clause (fun vs H Q E => spRead K a (vs ++ []) H Q E) E0 (tC (.ref a.f_Clause)) (tCons (tVar 5) tNil)) tNil))) (ts := fun _ _ _ => tNever) (Wout := fun _ _ _ _ => False) rfl rfl ⟨rfl, by decide, .inl T.mg_BadClause⟩ takes0 (fun W pn xe tk _ => (pss_one (ps_expr (pe_bm PySem.F.plainAttrs_list PySem.F.slot_list_append PySem.F.type_list_append mt_append (pv 3) (pa_cons (ClX.pe_cmeth (pe_glob (v := .ref a.f_Clause) rfl T.mg_Clause rfl) T.r_Clause T.m_Clause_read (G_Clause_read.raw (bd_Clause_read T) .nil) hrc pass0 (pa_cons (pv 5) pa_nil)) pa_nil))))) (fun a oe cls d pn _ _ => pss_one ps_never))))
    (pss_one (ps_ret (pe_makeVS (i := 0) T.mk_Change G_Change_init hrm pass0 rfl (Or.inl rfl) (pv 3))))))))), ?_⟩
    refine q_when (b := false) (et_not (a := true) (et_B (ev_isi (ea_cons (ev_var rfl) (ea_cons ev_c ea_nil)) (.ty _) (fun _ _ => .base (.str _)) (kit_ty (by decide +kernel))))) (fun z => nomatch z) fun _ H1 e1 => ?_
    refine ⟨_, rfl, ⟨s, rfl⟩, s, ",", rfl, rfl, by decide +kernel, by show s.length + 2 ≤ sizeLine; exact Nat.le_of_lt (Nat.lt_of_le_of_lt (Nat.add_le_add_right hlen 2) (by decide)), fun pr hpr => ?_⟩
    rw [hsp]
    have e2 : Ex H (upd H1 pr (.lst ((cs.map clText).map V.str))) := e1.trans (Ex.new hpr)
    refine q_when (b := false) (et_is (et_test (ev_op (ev_lenS (K := K) (ev_var rfl) (sq_of upd_same)) (ev_cval ev_c T.r_Change hm) rv_I0)) (by rw [List.length_map, List.length_map]; exact decide_eq_false (by omega))) (fun z => nomatch z) fun _ H3 e3 => ?_
    refine q_asgL (xs := []) (el_lst ea_nil (by decide)) fun l H4 hl e4 h4 => ?_
    have hpr4 : H4 pr = some (.lst ((cs.map clText).map V.str)) := e4 _ _ (e3 _ _ upd_same)
    have hlH : H l = none := fresh_back (e2.trans e3) hl
    have lpr : pr ≠ l := fun z => by rw [← z, e3 _ _ upd_same] at hl; cases hl
    refine q_forEnL (K := K) (ys := (cs.map clText).map V.str) (ea_cons (ev_var rfl) ea_nil) (fun i σ' H' => Ex H H' ∧ H' pr = some (.lst ((cs.map clText).map V.str)) ∧ (∃ o4 o5, σ' = [some (.ref a.f_Change), some (.str s), some (.ref pr), some (.ref l), o4, o5]) ∧ ∃ ps : List Addr, H' l = some (.lst (ps.map V.ref)) ∧ ClsAt K a H' ps (cs.take i))
      (fun H5 e5 => ⟨((e2.trans e3).trans e4).trans e5, e5 _ _ hpr4, ⟨_, _, rfl⟩, [], e5 _ _ h4, rfl, fun i q c h1 h2 => by simp at h1⟩) (fun i σ' H' q => q.2.1) hpr4 (fun i y σ' H' hy q H5 e5 => ?_) (fun σ' H' q => ?_)
    · obtain ⟨e, hpr5, ⟨o4, o5, rfl⟩, ps, hl5, cls⟩ := q
      rw [List.getElem?_map, List.getElem?_map] at hy
      obtain ⟨c, hc, rfl⟩ : ∃ c, cs[i]? = some c ∧ V.str (clText c) = y := by
        cases hc : cs[i]? with
        | none => rw [hc] at hy; cases hy
        | some c => rw [hc] at hy; exact ⟨c, rfl, Option.some.inj hy⟩
      have cok := ok c (List.mem_of_getElem? hc)
      refine ⟨_, rfl, .inl ⟨rfl, _, sq_of (e5 _ _ hl5)⟩, rfl, _, rfl, (if c.1 = "ugo" then "a" else c.1), c.1, c.2.1, c.2.2, rfl, ?_, cok.1, cok.2.1, cok.2.2, fun q H6 hq e6 cl => ?_⟩
      · by_cases hu : c.1 = "ugo"
        · rw [if_pos hu]; exact .inr ⟨rfl, hu⟩
        · rw [if_neg hu]; exact .inl rfl
      have hl6 := e6 _ _ (e5 _ _ hl5)
      have hps : ps.length ≤ 8 := by rw [cls.1, List.length_take]; omega
      refine ⟨l, _, _, rfl, rfl, hl6, by rw [List.length_map]; exact Nat.lt_of_le_of_lt hps (by decide), ?_⟩
      have b7 : ExB l H6 (upd H6 l (.lst (ps.map V.ref ++ [.ref q]))) := fun b o hb ne => by rw [upd_ne ne]; exact hb
      refine ⟨Ex.mut ((e.trans e5).trans e6) hlH, by rw [upd_ne lpr]; exact e6 _ _ (e5 _ _ hpr5), ⟨_, _, rfl⟩, ps ++ [q], by rw [upd_same, List.map_append] <;> rfl, ?_⟩
      rw [show cs.take (i + 1) = cs.take i ++ [c] by rw [List.take_succ, hc]; rfl]
      exact (((cls.mono e5).mono e6).snoc cl).grow b7 hl6
    · obtain ⟨e, hpr5, ⟨o4, o5, rfl⟩, ps, hl5, cls⟩ := q
      rw [List.length_map, List.length_map, List.take_length] at cls
      refine ⟨rfl, _, rfl, l, ps.map V.ref, rfl, .inr (sq_of hl5), fun x dx hx hdx hne => ⟨.ref x, ps.map V.ref, rfl, by rw [List.length_map, cls.1]; exact most, fun ct hct => ?_⟩⟩
      have eN : Ex H' (upd (upd (upd H' dx (.own x)) x (.ins a.f_Change dx [])) ct (.tup (ps.map V.ref))) := fun b o hb => by
        have bx := ne_of_none hb hx
        have bd := ne_of_none hb hdx
        have bc : b ≠ ct := fun z => by
          rw [z] at bx bd hb
          rw [upd_ne bx, upd_ne bd, hb] at hct
          cases hct
        rw [upd_ne bc, upd_ne bx, upd_ne bd]
        exact hb
      have xct : x ≠ ct := fun z => by rw [← z, upd_same] at hct; cases hct
      exact ⟨x, dx, ct, ps, cs, rfl, upd_same, cls.mono eN, ok, pos, Nat.le_trans most (by decide), by rw [upd_ne xct, upd_same], fun H9 b9 ch => ⟨rfl, k x H9 (fresh_back e hx) (e.trans fun b o hb => b9 b o (eN b o hb) (ne_of_none hb hx)) ch⟩⟩
end
end KY
set_option Elab.async false
set_option linter.all false
set_option maxRecDepth 100000
set_option maxHeartbeats 4000000
namespace KY
open PySem PySem.Spec PyProof.Rows L2 Evl
local macro_rules | `(tactic| walk_at "ev") => `(tactic| repeat' (first | exact ev_c | exact ev_var rfl | exact rv_I0 | refine' rv_I ?_ | refine' rv_eq ?_ | refine' rv_ne ?_ | refine' ev_op ?_ ?_ ?_ | exact ea_nil | refine' ea_cons ?_ ?_ | refine' et_test ?_ | refine' et_B ?_ | refine' et_not ?_ | refine' ev_notV ?_))

open PySem
def foldN (cs : List Cl) (n : Nat) (form : Str) : Nat := cs.foldl (fun (v : Nat) (c : Cl) => doneN c.1 c.2.1 c.2.2 v form) n
theorem done_lt {who sign what form : Str} {n : Nat} (h : n < 512) : doneN who sign what n form < 512 := by
  have h1 := part_lt (who := who) (sign := sign) (what := what) (form := form) (c := 117) h
  have h2 := part_lt (who := who) (sign := sign) (what := what) (form := form) (c := 103) h
  have h3 := part_lt (who := who) (sign := sign) (what := what) (form := form) (c := 111) h
  unfold doneN
  omega
theorem fold_lt : ∀ (cs : List Cl) {n : Nat} {form : Str}, n < 512 → foldN cs n form < 512
  | [], _, _, h => h
  | c :: cs, _, _, h => fold_lt cs (done_lt h)
theorem foldN_snoc (cs : List Cl) (c : Cl) (n : Nat) (form : Str) : foldN (cs ++ [c]) n form = doneN c.1 c.2.1 c.2.2 (foldN cs n form) form := by
  unfold foldN
  rw [List.foldl_append]
  rfl
/-- the told clauses cs stand in a list -/
def ToldAt (H : Hp) (l : Addr) (cs : List Cl) : Prop := ∃ ts : List Addr, H l = some (.lst (ts.map V.ref)) ∧ ts.length = cs.length ∧ ∀ (i : Nat) (t : Addr) (c : Cl), ts[i]? = some t → cs[i]? = some c → H t = some (.tup [.str c.1, .str c.2.1, .str c.2.2])
theorem ToldAt.mono {H H' : Hp} {l : Addr} {cs : List Cl} (m : ToldAt H l cs) (e : Ex H H') : ToldAt H' l cs := by
  obtain ⟨ts, h1, h2, h3⟩ := m
  exact ⟨ts, e _ _ h1, h2, fun i t c a b => e _ _ (h3 i t c a b)⟩
theorem rv_addS {H : Hp} {a b : Str} (h : a.length + b.length ≤ 100000) : RV (fun x y H Q => ∃ a b, x = .str a ∧ y = .str b ∧ a.length + b.length ≤ sizeLine ∧ Q (.str (a ++ b)) H) (.str a) (.str b) H (.str (a ++ b)) := fun H1 _ _ q => ⟨a, b, rfl, rfl, sz_of h, q H1 (Ex.refl H1)⟩
theorem short : (∀ s ∈ allWho0, s.length ≤ 3) ∧ (∀ s ∈ allSign, s.length ≤ 1) ∧ (∀ s ∈ allw, s.length ≤ 4) := by decide +kernel
abbrev who0N (c : Cl) : Str := if c.1 = "ugo" then "a" else c.1
theorem who0_in {c : Cl} (h : c.1 ∈ allWho) : (who0N c) ∈ allWho0 := by
  unfold who0N
  split
  · exact List.mem_cons_self ..
  · exact List.mem_cons_of_mem _ h
def spText (K : PySem.W.Frag) : Sp := fun vs H Q _ => ∃ (t : Addr) (c : Cl), vs = [.ref t] ∧ SqT K H t [.str c.1, .str c.2.1, .str c.2.2] ∧ clOk c ∧ ∀ H', Ex H H' → Q (.str (clText c)) H'
def spChT (K : PySem.W.Frag) : Sp := fun vs H Q _ => ∃ (l : Addr) (cs : List Cl), vs = [.ref l] ∧ ToldAt H l cs ∧ (∀ c ∈ cs, clOk c) ∧ cs.length ≤ 8 ∧ ∀ H', Ex H H' → Q (.str (Txt.join "," (cs.map clText))) H'
def spChD (K : PySem.W.Frag) : Sp := fun vs H Q _ => ∃ (l : Addr) (cs : List Cl) (n : Nat) (form : Str), vs = [.ref l, .int n, .str form] ∧ ToldAt H l cs ∧ (∀ c ∈ cs, clOk c) ∧ n < 512 ∧ ∀ H', Ex H H' → Q (.int (foldN cs n form : Nat)) H'
theorem clText_len {c : Cl} (h : clOk c) : (clText c).length ≤ 100 := (clT_facts _ (who0_in h.1) _ h.2.1 _ h.2.2).2.2.2.2.2.2
section
variable {P : Program} {w : World} {K : PySem.W.Frag} {mg : Str → Option Value} {base : Heap} {a : Ads}
theorem ok_text (T : Txt w K mg a) : FnOk P w K mg base CX0 1 a.f__law_text a.d__law_text ["_law_told"] (spText K) := by
  refine T.fn__law_text.ok sc__law_text (fun vs H Q E h => ?_) (fun cdv A outer s H vs Q E hr h => ?_)
  · obtain ⟨_, _, rfl, _⟩ := h
    rfl
  · obtain ⟨t, c, rfl, ht, ok, k⟩ := h
    refine ⟨_, (pss_one (ps_ret (pe_op op_add_str (pe_op op_add_str (pe_ifExp (pt_cmpR op_eq (pe_ix ix_tup (pv 0) pe_int (fun _ _ => rfl)) pe_str (nomark _)) pe_str (pe_ix ix_tup (pv 0) pe_int (fun _ _ => rfl))) (pe_ix ix_tup (pv 0) pe_int (fun _ _ => rfl))) (pe_ix ix_tup (pv 0) pe_int (fun _ _ => rfl))))), ?_⟩
    have l1 := short.1 _ (who0_in ok.1)
    have l2 := short.2.1 _ ok.2.1
    have l3 := short.2.2 _ ok.2.2
    have l12 : (who0N c ++ c.2.1).length = (who0N c).length + c.2.1.length := by
      show ((who0N c).cps ++ c.2.1.cps).size = _
      rw [Array.size_append]
      rfl
    refine s_ret (v := .str (clText c)) (ev_is (ev_op (ev_op (ev_if (b := decide (V.str c.1 = V.str "ugo")) (v := .str (who0N c)) (et_test (ev_op (ev_op (ev_var rfl) ev_c (rv_ixT ht rfl)) ev_c (rv_eq rfl))) (fun hb => ev_is ev_c (by unfold who0N; rw [if_pos (V.str.inj (of_decide_eq_true hb))])) (fun hb => ev_is (ev_op (ev_var rfl) ev_c (rv_ixT ht rfl)) (by unfold who0N; rw [if_neg (fun z => of_decide_eq_false hb (congrArg V.str z))])))
      (ev_op (ev_var rfl) ev_c (rv_ixT ht rfl)) (rv_addS (by omega))) (ev_op (ev_var rfl) ev_c (rv_ixT ht rfl)) (rv_addS (by rw [l12]; omega))) rfl) fun H1 e1 => k H1 e1
theorem ok_change_done (T : Txt w K mg a) : FnOk P w K mg base CX0 3 a.f__law_change_done a.d__law_change_done ["_law_change_here", "_law_number", "_law_form"] (spChD K) := by
  have G__law_clause_done : FnOk P w K mg base CX0 1 _ _ _ _ := ok_done T
  refine T.fn__law_change_done.ok sc__law_change_done (fun vs H Q E h => ?_) (fun cdv A outer s H vs Q E hr h => ?_)
  · obtain ⟨_, _, _, _, rfl, _⟩ := h
    rfl
  · obtain ⟨l, cs, n, form, rfl, told, ok, hn, k⟩ := h
    have hrc : Room 1 _ := hr.mono (by decide)
    refine ⟨_, (pss_cons (ps_for PassesOwn.never rfl (pi_list (pv 0)) (pg_name (i := 3) sc__law_change_done.nd rfl (Or.inl rfl)) (pss_one (ps_set (i := 1) sc__law_change_done.nd rfl (Or.inl rfl) (pe_call G__law_clause_done hrc rfl T.mg__law_clause_done T.fn__law_clause_done.kp (bd__law_clause_done T) .nil pass0 (pa_cons (pv 3) (pa_cons (pv 1) (pa_cons (pv 2) pa_nil)))))))
    (pss_one (ps_ret (pv 1)))), ?_⟩
    obtain ⟨ts, h1, h2, h3⟩ := told
    refine q_forL (K := K) (ev_var rfl) (sq_of h1) (fun i σ' H' => ∃ o3, σ' = [some (.ref l), some (.int (foldN (cs.take i) n form : Nat)), some (.str form), o3] ∧ Ex H H') (fun H1 e1 => ⟨_, rfl, e1⟩) (fun i σ' H' _ q => by obtain ⟨_, _, e⟩ := q; exact sq_of (e _ _ h1)) (fun i x σ' H' hx q => ?_) (fun σ' H' q => ?_)
    · obtain ⟨o3, rfl, e⟩ := q
      rw [List.getElem?_map] at hx
      obtain ⟨t, ht, rfl⟩ := Option.map_eq_some_iff.mp hx
      have hi : i < cs.length := by rw [← h2]; exact (List.getElem?_eq_some_iff.mp ht).1
      have hci : cs[i]? = some cs[i] := by simp [hi]
      have cok := ok _ (List.mem_of_getElem? hci)
      show tAsg _ (gName 1) _ [some (.ref l), some (.int (foldN (cs.take i) n form : Nat)), some (.str form), some (.ref t)] H'
      refine s_asg (v := .int (doneN cs[i].1 cs[i].2.1 cs[i].2.2 (foldN (cs.take i) n form) form : Nat)) (ev_call (vs := [.ref t, .int (foldN (cs.take i) n form : Nat), .str form]) (by walk_at "ev") fun H2 e2 Q2 q2 E2 => ⟨t, _, _, _, form, _, rfl, st_of (e2 _ _ (e _ _ (h3 i t _ ht hci))), cok.1, cok.2.1, cok.2.2, fold_lt _ hn, q2⟩) fun H2 e2 => ?_
      refine ⟨some (.ref t), ?_, e.trans e2⟩
      rw [show cs.take (i + 1) = cs.take i ++ [cs[i]] by rw [List.take_succ, hci]; rfl, foldN_snoc]
      rfl
    · obtain ⟨o3, rfl, e⟩ := q
      rw [List.length_map, h2, List.take_length]
      exact s_ret (v := .int (foldN cs n form : Nat)) (ev_var rfl) fun H2 e2 => k H2 (e.trans e2)
theorem ok_change_text (T : Txt w K mg a) : FnOk P w K mg base CX0 3 a.f__law_change_text a.d__law_change_text ["_law_change_here"] (spChT K) := by
  have G__law_text : FnOk P w K mg base CX0 1 _ _ _ _ := ok_text T
  refine T.fn__law_change_text.ok sc__law_change_text (fun vs H Q E h => ?_) (fun cdv A outer s H vs Q E hr h => ?_)
  · obtain ⟨_, _, rfl, _⟩ := h
    rfl
  · obtain ⟨l, cs, rfl, told, ok, hl, k⟩ := h
    have hrc : Room 1 _ := hr.mono (by decide)
    refine ⟨_, (pss_one (ps_ret (pe_join pe_str (pe_lc (own := [("_law_told", 1)]) (g := gName 1) rfl sc__law_change_text.nd (pi_list (pv 0)) (blkOk_by (own := [("_law_told", 1)]) (N := n__law_change_text) (sc := defScope s__law_change_text) (by decide +kernel)) (fun _ _ _ _ _ => (pg_name (i := 1) sc__law_change_text.nd rfl (Or.inl rfl))) (fun _ _ _ _ _ => pts_nil) (fun _ _ _ _ _ => (pe_call G__law_text hrc rfl T.mg__law_text T.fn__law_text.kp (bd__law_text T) .nil pass0 (pa_cons (pv 1) pa_nil))))))), ?_⟩
    obtain ⟨ts, h1, h2, h3⟩ := told
    have sum : ∀ ds : List Cl, (∀ c ∈ ds, clOk c) → ((ds.map clText).map (·.length)).sum ≤ ds.length * 100 := by
      intro ds
      induction ds with
      | nil => intro _; exact Nat.le_refl 0
      | cons c ds ih =>
        intro h
        have := ih fun d m => h d (List.mem_cons_of_mem _ m)
        have := clText_len (h c (List.mem_cons_self ..))
        simp only [List.map_cons, List.sum_cons, List.length_cons]
        omega
    refine s_ret (v := .str (Txt.join "," (cs.map clText))) (ev_join (ys := cs.map clText) ev_c (el_is (el_lcL (K := K) (xs := ts.map V.ref) (fun _ => true) (fun i => V.str (((cs.map clText)[i]?).getD "")) (ev_var rfl) (sq_of h1) (by rw [List.length_map]; omega) (fun _ => rfl) (fun _ _ _ _ _ => et_yes) (fun i x H1 e1 hx _ => ?_)) ?_) ?_) fun H1 e1 => k H1 e1
    · rw [List.getElem?_map] at hx
      obtain ⟨t, ht, rfl⟩ := Option.map_eq_some_iff.mp hx
      have hi : i < cs.length := by rw [← h2]; exact (List.getElem?_eq_some_iff.mp ht).1
      have hci : cs[i]? = some cs[i] := by simp [hi]
      refine ev_is (ev_call (vs := [.ref t]) (by walk_at "ev") fun H2 e2 Q2 q2 E2 => ⟨t, cs[i], rfl, st_of (e2 _ _ (e1 _ _ (h3 i t _ ht hci))), ok _ (List.mem_of_getElem? hci), q2⟩) ?_
      rw [List.getElem?_map, hci]
      rfl
    · rw [given_all, List.length_map, h2]
      apply List.ext_getElem
      · simp
      · intro i a1 a2
        simp at a1 a2 ⊢
        simp [a1]
    · have := sum cs ok
      rw [List.length_map, show ("," : Str).length = 1 by decide +kernel]
      omega
end
end KY
set_option Elab.async false
set_option linter.all false
set_option maxRecDepth 100000
set_option maxHeartbeats 4000000
namespace KY
open PySem PySem.Spec PyProof.Rows L2 Evl
local macro_rules | `(tactic| walk_at "ev") => `(tactic| repeat' (first | exact ev_c | exact ev_var rfl | exact rv_I0 | refine' rv_I ?_ | refine' rv_eq ?_ | refine' rv_ne ?_ | refine' ev_op ?_ ?_ ?_ | exact ea_nil | refine' ea_cons ?_ ?_ | refine' et_test ?_ | refine' et_B ?_ | refine' et_not ?_ | refine' ev_notV ?_))

open PySem
theorem bits_lt : ∀ p, p < 8 → ∀ w : Nat, (w = 1 ∨ w = 2 ∨ w = 4) → bitsN p w < 512 := by
  intro p hp w hw
  unfold bitsN
  have h1 := Nat.mod_lt (p / 4) (show 0 < 2 by decide)
  have h2 := Nat.mod_lt (p / 2) (show 0 < 2 by decide)
  have h3 := Nat.mod_lt p (show 0 < 2 by decide)
  rcases hw with rfl | rfl | rfl <;> omega
theorem pat_sum : ∀ p0, p0 < 8 → ∀ p1, p1 < 8 → ∀ p2, p2 < 8 → patN (bitsN p0 4 + bitsN p1 2 + bitsN p2 1) 4 = p0 ∧ patN (bitsN p0 4 + bitsN p1 2 + bitsN p2 1) 2 = p1 ∧ patN (bitsN p0 4 + bitsN p1 2 + bitsN p2 1) 1 = p2 := by
  have h : ((List.range 8).all fun (p0 : Nat) => (List.range 8).all fun (p1 : Nat) => (List.range 8).all fun (p2 : Nat) => decide (patN (bitsN p0 4 + bitsN p1 2 + bitsN p2 1) 4 = p0 ∧ patN (bitsN p0 4 + bitsN p1 2 + bitsN p2 1) 2 = p1 ∧ patN (bitsN p0 4 + bitsN p1 2 + bitsN p2 1) 1 = p2)) = true := by decide +kernel
  exact fun p0 h0 p1 h1 p2 h2 => of_decide_eq_true (all_nat (all_nat (all_nat h p0 h0) p1 h1) p2 h2)
theorem parts_are : ∀ n, n < 512 → bitsN (patN n 4) 4 + bitsN (patN n 2) 2 + bitsN (patN n 1) 1 = n := by
  have h : ((List.range 512).all fun (n : Nat) => decide (bitsN (patN n 4) 4 + bitsN (patN n 2) 2 + bitsN (patN n 1) 1 = n)) = true := by decide +kernel
  exact fun n hn => of_decide_eq_true (all_nat h n hn)
theorem pat_bitsN : ∀ p, p < 8 → patN (bitsN p 4) 4 = p ∧ patN (bitsN p 2) 2 = p ∧ patN (bitsN p 1) 1 = p := by
  have h : ((List.range 8).all fun (p : Nat) => decide (patN (bitsN p 4) 4 = p ∧ patN (bitsN p 2) 2 = p ∧ patN (bitsN p 1) 1 = p)) = true := by decide +kernel
  exact fun p hp => of_decide_eq_true (all_nat h p hp)
/-- the table of x for a form -/
def xK (form : Str) : Nat := if decide (V.str form = V.str "file") then 2 else 3
theorem xK_tab (f : Nat → Nat → Nat) (form : Str) : (if decide (V.str form = V.str "file") then f 2 else f 3) = f (xK form) := by
  unfold xK
  cases decide (V.str form = V.str "file") <;> rfl
theorem pat_done {c : Cl} {n : Nat} {form : Str} (ok : clOk c) (hf : form ∈ forms) (hn : n < 512) : patN (doneN c.1 c.2.1 c.2.2 n form) 4 = tabF c.1 c.2.1 c.2.2 0 (patN n 4) ∧ patN (doneN c.1 c.2.1 c.2.2 n form) 2 = tabF c.1 c.2.1 c.2.2 1 (patN n 2) ∧ patN (doneN c.1 c.2.1 c.2.2 n form) 1 = tabF c.1 c.2.1 c.2.2 (xK form) (patN n 1) := by
  have l0 := tab_low (sign := c.2.1) (what := c.2.2) ok.1 0 _ (pat_lt 4 (by decide) n hn)
  have l1 := tab_low (sign := c.2.1) (what := c.2.2) ok.1 1 _ (pat_lt 2 (by decide) n hn)
  have l2 := tab_low (sign := c.2.1) (what := c.2.2) ok.1 (xK form) _ (pat_lt 1 (by decide) n hn)
  have hs := or_sum _ l0 _ l1 _ l2
  have hr : doneN c.1 c.2.1 c.2.2 n form = bitsN (tabF c.1 c.2.1 c.2.2 0 (patN n 4)) 4 + bitsN (tabF c.1 c.2.1 c.2.2 1 (patN n 2)) 2 + bitsN (tabF c.1 c.2.1 c.2.2 (xK form) (patN n 1)) 1 := by
    rw [← done_is_res ok.1 ok.2.1 ok.2.2 hf hn]
    unfold resN numI
    rw [xK_tab (fun k => tabF c.1 c.2.1 c.2.2 k), hs]
    rfl
  rw [hr]
  exact pat_sum _ l0 _ l1 _ l2
theorem pat_fold : ∀ (cs : List Cl) {n : Nat} {form : Str}, (∀ c ∈ cs, clOk c) → form ∈ forms → n < 512 → patN (foldN cs n form) 4 = foldT cs 0 (patN n 4) ∧ patN (foldN cs n form) 2 = foldT cs 1 (patN n 2) ∧ patN (foldN cs n form) 1 = foldT cs (xK form) (patN n 1)
  | [], _, _, _, _, _ => ⟨rfl, rfl, rfl⟩
  | c :: cs, n, form, ok, hf, hn => by
    obtain ⟨d4, d2, d1⟩ := pat_done (ok c (List.mem_cons_self ..)) hf hn
    obtain ⟨f4, f2, f1⟩ := pat_fold cs (n := doneN c.1 c.2.1 c.2.2 n form) (form := form) (fun d m => ok d (List.mem_cons_of_mem _ m)) hf (done_lt hn)
    show patN (foldN cs (doneN c.1 c.2.1 c.2.2 n form) form) 4 = foldT cs 0 (tabF c.1 c.2.1 c.2.2 0 (patN n 4)) ∧ patN (foldN cs (doneN c.1 c.2.1 c.2.2 n form) form) 2 = foldT cs 1 (tabF c.1 c.2.1 c.2.2 1 (patN n 2)) ∧ patN (foldN cs (doneN c.1 c.2.1 c.2.2 n form) form) 1 = foldT cs (xK form) (tabF c.1 c.2.1 c.2.2 (xK form) (patN n 1))
    rw [f4, f2, f1, d4, d2, d1]
    exact ⟨rfl, rfl, rfl⟩
theorem num_fold {cs : List Cl} {n : Nat} {form : Str} (ok : ∀ c ∈ cs, clOk c) (hf : form ∈ forms) (hn : n < 512) : numI (foldT cs 0) (foldT cs 1) (foldT cs 2) (foldT cs 3) n form = (foldN cs n form : Nat) := by
  obtain ⟨f4, f2, f1⟩ := pat_fold cs (n := n) (form := form) ok hf hn
  unfold numI
  rw [xK_tab (foldT cs), or_sum _ (foldT_low cs ok 0 _ (pat_lt 4 (by decide) n hn)) _ (foldT_low cs ok 1 _ (pat_lt 2 (by decide) n hn)) _ (foldT_low cs ok (xK form) _ (pat_lt 1 (by decide) n hn)), ← f4, ← f2, ← f1, parts_are _ (fold_lt cs hn)]
def spChCall (K : PySem.W.Frag) (a : Ads) : Sp := fun vs H Q _ => ∃ (p : Addr) (v : V) (n : Nat) (cs : List Cl) (form : Str), vs = [.ref p, v, .str form] ∧ ChangeAt K a H p cs ∧ (∀ c ∈ cs, clOk c) ∧ form ∈ forms ∧ n < 512 ∧ AsMode a H v n ∧ ∀ q H', H q = none → Ex H H' → ModeAt a H' q (foldN cs n form) → Q (.ref q) H'
section
variable {P : Program} {w : World} {K : PySem.W.Frag} {mg : Str → Option Value} {base : Heap} {a : Ads}
theorem chf_tables (ct tt : Addr) : (putF "_tables" (V.ref tt) (putF "_clauses" (V.ref ct) [])).lookup ("_tables" : Str) = some (.ref tt) := by
  rw [lookup_putF, if_pos rfl]
theorem ok_Change_call (T : Txt w K mg a) : FnOk P w K mg base CX0 7 a.f_ChangeD_callD a.d_ChangeD_callD ["self", "mode", "form"] (spChCall K a) := by
  have G_Mode_init : FnOk P w K mg base CX0 5 _ _ _ _ := ok_Mode_init T
  have G_number_behind : FnOk P w K mg base CX0 5 _ _ _ _ := (ok_number_behind T).mono (by decide)
  have G_number_of : FnOk P w K mg base CX0 5 _ _ _ _ := ok_number_of T
  refine T.fn_ChangeD_callD.ok sc_ChangeD_callD (fun vs H Q E h => ?_) (fun cdv A outer s H vs Q E hr h => ?_)
  · obtain ⟨_, _, _, _, _, rfl, _⟩ := h
    rfl
  · obtain ⟨p, v, n, cs, form, rfl, ⟨dx, ct, tt, ps, hp, seq, cls, tab⟩, ok, hf, hn, hv, k⟩ := h
    have hrm : Room 6 _ := hr
    have hrc : Room 5 _ := hr.mono (by decide)
    refine ⟨_, (pss_one (ps_ret (pe_make T.mk_Mode G_Mode_init hrm rfl T.mg_Mode (bd_ModeD_initD T) .nil pass0 (pa_cons (pe_call G_number_behind hrc rfl T.mg_number_behind T.fn_number_behind.kp (bd_number_behind T) .nil pass0 (pa_cons (pe_fld (pv 0) rfl) (pa_cons (pe_call G_number_of hrc rfl T.mg_number_of T.fn_number_of.kp (bd_number_of T) .nil pass0 (pa_cons (pv 1) pa_nil)) (pa_cons (pv 2) pa_nil)))) pa_nil)))), ?_⟩
    refine em_mode (a := a) (n := foldN cs n form) (ev_is (ev_call (vs := [.ref tt, .int n, .str form]) (ea_cons (ev_fld (ev_var rfl) hp T.c_Change T.n_tables_Change (chf_tables ct tt)) (ea_cons (ev_call (vs := [v]) (by walk_at "ev") fun H1 e1 Q1 q1 E1 => ⟨v, n, rfl, hn, ?_, q1⟩) (by walk_at "ev")))
      fun H1 e1 Q1 q1 E1 => ⟨tt, _, _, _, _, n, form, rfl, hn, TabR.mono tab e1, foldT_low cs ok 0, foldT_low cs ok 1, foldT_low cs ok 2, foldT_low cs ok 3, q1⟩) (congrArg V.int (num_fold ok hf hn))) (fold_lt cs hn) H (Ex.refl H) _ fun q H1 hq e1 m => k q H1 hq e1 m
    rcases hv with rfl | ⟨q, rfl, m⟩
    · exact .inl rfl
    · exact .inr ⟨q, rfl, m.mono e1⟩
theorem ok_Change_tables (T : Txt w K mg a) : FnOk P w K mg base CX0 1 a.f_Change_tables a.d_Change_tables ["self"] (getSp a.f_Change "_tables") := by
  obtain ⟨oc, od, kV, doc, pm, an, cdv, ct, osl, e, lk, hcd⟩ := T.fn_Change_tables.ex
  rw [e]
  exact fn_getter (by rw [← e]; exact lk) hcd sc_Change_tables rfl rfl T.c_Change T.n_tables_Change
end
end KY
set_option Elab.async false
set_option linter.all false
set_option maxRecDepth 100000
set_option maxHeartbeats 4000000
namespace KY
open PySem PySem.Spec PyProof.Rows L2 Evl
local macro_rules | `(tactic| walk_at "ev") => `(tactic| repeat' (first | exact ev_c | exact ev_var rfl | exact rv_I0 | refine' rv_I ?_ | refine' rv_eq ?_ | refine' rv_ne ?_ | refine' ev_op ?_ ?_ ?_ | exact ea_nil | refine' ea_cons ?_ ?_ | refine' et_test ?_ | refine' et_B ?_ | refine' et_not ?_ | refine' ev_notV ?_))

open PySem
theorem PenAt.le {H : Hp} {p : Addr} {n m : Nat} (h : PenAt H p n) (l : n ≤ m) : PenAt H p m := by
  obtain ⟨q, ns, at_, rest, h1, h2, h3, h4, h5, h6⟩ := h
  exact ⟨q, ns, at_, rest, h1, h2, h3, Nat.le_trans h4 l, h5, h6⟩
/-! x op y, both own instances of one class -/
def rOwnI (K : PySem.W.Frag) (C : Addr) (sp : Sp) (E : XK) : R2 := fun x y H Q => ∃ (p dx : Addr) (fs : List (Str × V)) (q dy : Addr) (gs : List (Str × V)), x = .ref p ∧ y = .ref q ∧ H p = some (.ins C dx fs) ∧ H q = some (.ins C dy gs) ∧ sp [x, y] H Q E
theorem op_ownI {X : Cx} {CX : CXT} {C g : Addr} {n : Nat} {sp : Sp} {E : XK} {op : CmpOp} (hop : ∀ a b, compareOp op a b = richCompare op a b) (hs : PySem.W.findIn X.K (.ref C) (cmpInfo op).2.1 = some (some (.ref g))) (hf : PySem.W.isFn X.K (.ref g) = true) (first : PySem.W.notFirst X.K C (.ref C) = true)
    (F : FnR X.prog X.w X.K X.mg X.base CX n g sp) (room : Room n X.A) (hx : Passes CX X E) : OpR X (compareOp op) (rOwnI X.K C sp E) := by
  intro pins s σ H x y v u Q I rx ry told
  obtain ⟨p, dx, fs, q, dy, gs, rfl, rfl, hp, hq, want⟩ := told
  obtain rfl : v = Value.ref p := rx
  obtain rfl : u = Value.ref q := ry
  obtain ⟨o1, d1, J1, _⟩ := StX.insC_at (X := X) I (.inr ⟨dx, fs, hp⟩)
  obtain ⟨o2, d2, J2, _⟩ := StX.insC_at (X := X) I (.inr ⟨dy, gs, hq⟩)
  obtain ⟨m, hF⟩ := I.fr
  rw [hop]
  refine PySem.W.cmp_K (op := op) (tb := .ref C) room.units0 hF I.ok.mod.kin J1 J2.type first hs hf (wpAny_mono (wpAny_call (run_fnR (us := [.ref p, .ref q]) (vs := [.ref p, .ref q]) F room hx I (.cons rfl (.cons rfl .nil)) want)) (fun r s' got => ?_) fun _ _ same => same)
  obtain ⟨z, H', I', rz, end_⟩ := got
  exact SlX.cmpback rz ⟨z, H', I', rz, end_⟩
def spMEq (a : Ads) : Sp := fun vs H Q _ => ∃ (p q : Addr) (n m : Nat), vs = [.ref p, .ref q] ∧ ModeAt a H p n ∧ ModeAt a H q m ∧ ∀ H', Ex H H' → Q (.bl (decide (V.int n = V.int m))) H'
def spChange : Sp := fun vs H Q _ => ∃ (p : Addr) (n M : Nat), vs = [.ref p, .int (M : Nat)] ∧ PenAt H p n ∧ n + 13 ≤ 100000 ∧ 0 < M ∧ M ≤ 4 ∧ ∀ (l : Addr) (cs : List Cl) H', 0 < cs.length → cs.length ≤ M → (∀ c ∈ cs, clOk c) → l ≠ p → ExP p H H' → PenAt H' p (n + 13) → ToldAt H' l cs → Q (.ref l) H'
section
variable {P : Program} {w : World} {K : PySem.W.Frag} {mg : Str → Option Value} {base : Heap} {a : Ads}
theorem ok_Mode_eq (T : Txt w K mg a) : FnOk P w K mg base CX0 1 a.f_ModeD_eqD a.d_ModeD_eqD ["self", "other"] (spMEq a) := by
  refine T.fn_ModeD_eqD.ok sc_ModeD_eqD (fun vs H Q E h => ?_) (fun cdv A outer s H vs Q E hr h => ?_)
  · obtain ⟨_, _, _, _, rfl, _⟩ := h
    rfl
  · obtain ⟨p, q, n, m, rfl, mp, mq, k⟩ := h
    refine ⟨_, (pss_one (ps_ret (pe_and (pe_callB call_isi (by rfl) T.b_isinstance PyProof.Rows.boot_isinstance (pa_cons (pv 1) (pa_cons (pe_glob (v := .ref a.f_Mode) rfl T.mg_Mode rfl) pa_nil))) (pe_one (pe_cmpR op_eq (pe_fld (pv 0) rfl) (pe_fld (pv 1) rfl) (nomark _)))))), ?_⟩
    obtain ⟨dx, hp⟩ := id mp
    obtain ⟨dy, hq⟩ := id mq
    exact s_ret (v := .bl (decide (V.int n = V.int m))) (ev_is (ev_andV (a := true) (ev_isi (ea_cons (ev_var rfl) (ea_cons ev_c ea_nil)) (.own _) (fun H' e' => tyx_mode T (mq.mono e')) T.is_Mode) fun _ => ev_op (ev_fld (ev_var rfl) hp T.c_Mode T.n_number_Mode (by simp [List.lookup]; rfl)) (ev_fld (ev_var rfl) hq T.c_Mode T.n_number_Mode (by simp [List.lookup]; rfl)) (rv_eq rfl)) (by rw [Bool.true_and])) fun H1 e1 => k H1 e1
theorem ok_lchange (T : Txt w K mg a) : FnOk P w K mg base CX0 6 a.f__law_change a.d__law_change ["_law_pen_here", "_law_most"] spChange := by
  have G__law_draw : FnOk P w K mg base CX0 5 _ _ _ _ := (ok_draw T).mono (by decide)
  have G__law_clause : FnOk P w K mg base CX0 5 _ _ _ _ := ok_lclause T
  refine T.fn__law_change.ok sc__law_change (fun vs H Q E h => ?_) (fun cdv A outer s H vs Q E hr h => ?_)
  · obtain ⟨_, _, _, rfl, _⟩ := h
    rfl
  · obtain ⟨p, n, M, rfl, pen, hn, hM0, hM4, k⟩ := h
    have hrc : Room 5 _ := hr
    refine ⟨_, (pss_one (ps_ret (pe_lc (own := [("_law_k", 2)]) (g := gName 2) rfl sc__law_change.nd (pi_range1 rfl T.b_range (pa_cons (pe_op op_add pe_int (pe_call G__law_draw hrc rfl T.mg__law_draw T.fn__law_draw.kp (bd__law_draw T) .nil pass0 (pa_cons (pv 0) (pa_cons (pv 1) pa_nil)))) pa_nil)) (blkOk_by (own := [("_law_k", 2)]) (N := n__law_change) (sc := defScope s__law_change) (by decide +kernel)) (fun _ _ _ _ _ => (pg_name (i := 2) sc__law_change.nd rfl (Or.inl rfl))) (fun _ _ _ _ _ => pts_nil) (fun _ _ _ _ _ => (pe_call G__law_clause hrc rfl T.mg__law_clause T.fn__law_clause.kp (bd__law_clause T) .nil pass0 (pa_cons (pv 0) pa_nil)))))), ?_⟩
    obtain ⟨o, ho⟩ := pen.ex
    refine ⟨.ref p, rfl, .int (M : Nat), rfl, p, n, M, rfl, pen, by omega, hM0, by omega, fun d H1 hd e1 pen1 => ?_⟩
    refine ⟨1, (d : Int), rfl, rfl, 1 + (d : Int), rfl, by omega, by omega, fun Dl hD => ?_⟩
    obtain ⟨o1, ho1⟩ := pen1.ex
    have Dp : Dl ≠ p := fun z => by rw [z, ho1] at hD; cases hD
    have HD : H Dl = none := by
      cases q : H Dl with
      | none => rfl
      | some u => rw [e1.ex _ _ q Dp] at hD; cases hD
    have nat : (1 + (d : Int)).toNat = d + 1 := by omega
    refine lc_range (fun i H' => ∃ (ts : List Addr) (cs : List Cl), cs.length = i ∧ ts.length = i ∧ (∀ c ∈ cs, clOk c) ∧ H' Dl = some (.lst (ts.map V.ref)) ∧ (∀ (j : Nat) (t : Addr) (c : Cl), ts[j]? = some t → cs[j]? = some c → t ≠ p ∧ t ≠ Dl ∧ H' t = some (.tup [.str c.1, .str c.2.1, .str c.2.2])) ∧ ExP p H H' ∧ PenAt H' p (n + 1 + 3 * i)) ?_ (fun i H' hi q => ?_) (fun H' q => ?_)
    · exact ⟨[], [], rfl, rfl, fun c m => (nomatch m), upd_same, fun j t c h => by simp at h, e1.trans (ExP.of (Ex.new hD)), pen1.keep (Ex.new hD)⟩
    · obtain ⟨ts, cs, l1, l2, ok, hl, tup, e, pen2⟩ := q
      have hi4 : i < 4 := by omega
      refine ⟨rfl, yes_at (iteT ?_)⟩
      refine ⟨.ref p, rfl, p, n + 1 + 3 * i, rfl, pen2, by omega, fun who sign what t H3 hwho hsign hwhat e3 pen3 tp tn ht => ?_⟩
      have hl3 := e3.ex _ _ hl Dp
      have tD : t ≠ Dl := fun z => by rw [z, hl] at tn; cases tn
      have bD : ExB Dl H3 (upd H3 Dl (.lst (ts.map V.ref ++ [.ref t]))) := fun b o hb ne => by rw [upd_ne ne]; exact hb
      have penD : PenAt (upd H3 Dl (.lst (ts.map V.ref ++ [.ref t]))) p (n + 1 + 3 * i + 3) := by
        obtain ⟨l, ns, at_, rest, h1, h2, h3, h4, h5, h6⟩ := pen3
        obtain ⟨l0, ns0, at0, rest0, g1, g2, _⟩ := pen
        obtain ⟨x', y', g3⟩ := (e.trans e3).fix l0 _ _ g1
        rw [h1] at g3
        cases g3
        exact ⟨l, ns, at_, rest, bD _ _ h1 Dp.symm, bD _ _ h2 (fun z => by rw [z, HD] at g2; cases g2), h3, h4, h5, h6⟩
      refine ⟨ts.map V.ref, hl3, sz_lt (by rw [List.length_map]; omega), ts ++ [t], cs ++ [(who, sign, what)], by rw [List.length_append, l1] <;> rfl, by rw [List.length_append, l2] <;> rfl, fun c m => ?_, by rw [upd_same, List.map_append] <;> rfl, fun j t' c h1 h2 => ?_, ?_, penD.le (by omega)⟩
      · rcases List.mem_append.mp m with m | m
        · exact ok c m
        · rw [List.mem_singleton.mp m]; exact ⟨hwho, hsign, hwhat⟩
      · by_cases hj : j < ts.length
        · rw [List.getElem?_append_left hj] at h1
          rw [List.getElem?_append_left (by rw [l1, ← l2]; exact hj)] at h2
          obtain ⟨a1, a2, a3⟩ := tup j t' c h1 h2
          exact ⟨a1, a2, bD _ _ (e3.ex _ _ a3 a1) a2⟩
        · have hj2 : j = ts.length := by
            have := (List.getElem?_eq_some_iff.mp h1).1
            rw [List.length_append] at this
            have e1 : ([t] : List Addr).length = 1 := rfl
            omega
          subst hj2
          rw [List.getElem?_append_right (Nat.le_refl _), Nat.sub_self] at h1
          rw [l2, ← l1, List.getElem?_append_right (Nat.le_refl _), Nat.sub_self] at h2
          obtain rfl : t = t' := Option.some.inj h1
          obtain rfl : (who, sign, what) = c := Option.some.inj h2
          exact ⟨tp, tD, bD _ _ ht tD⟩
      · refine ⟨fun b o hb ne => bD _ _ ((e.trans e3).ex _ _ hb ne) (fun z => by rw [z, HD] at hb; cases hb), fun l' x' y' q => ?_⟩
        obtain ⟨x2, y2, g⟩ := (e.trans e3).fix l' x' y' q
        exact ⟨x2, y2, bD _ _ g Dp.symm⟩
    · rw [nat] at q
      obtain ⟨ts, cs, l1, l2, ok, hl, tup, e, pen2⟩ := q
      exact k Dl cs H' (by omega) (by omega) ok Dp e (pen2.le (by omega)) ⟨ts, hl, by rw [l1, l2], fun j t c h1 h2 => (tup j t c h1 h2).2.2⟩
end
end KY
set_option Elab.async false
set_option linter.all false
set_option maxRecDepth 100000
set_option maxHeartbeats 4000000
namespace KY
open PySem PySem.Spec PyProof.Rows L2 Evl
local macro_rules | `(tactic| walk_at "ev") => `(tactic| repeat' (first | exact ev_c | exact ev_var rfl | exact rv_I0 | refine' rv_I ?_ | refine' rv_eq ?_ | refine' rv_ne ?_ | refine' ev_op ?_ ?_ ?_ | exact ea_nil | refine' ea_cons ?_ ?_ | refine' et_test ?_ | refine' et_B ?_ | refine' et_not ?_ | refine' ev_notV ?_))

open PySem
/-! the tables as data -/
def rowD (f : Nat → Nat) : PyData := .tuple ((List.range 8).map fun i => .int (f i : Nat))
def tabD (f : Nat → Nat → Nat) : PyData := .tuple [rowD (f 0), rowD (f 1), rowD (f 2), rowD (f 3)]
theorem dp_nats {K : PySem.W.Frag} {H : Hp} (f : Nat → Nat) : ∀ is : List Nat, DpAll K H (is.map fun i => V.int (f i : Nat)) (is.map fun i => PyData.int (f i : Nat))
  | [] => .nil
  | i :: is => .cons (.int _) (dp_nats f is)
theorem dp_row {K : PySem.W.Frag} {H : Hp} {p : Addr} {f : Nat → Nat} (h : SqT K H p (rowV f)) : Dp K H (.ref p) (rowD f) := .tup h (dp_nats f _)
theorem dp_tab {K : PySem.W.Frag} {H : Hp} {t : Addr} {f : Nat → Nat → Nat} (h : TabR K H t f) : Dp K H (.ref t) (tabD f) := by
  obtain ⟨t0, t1, t2, t3, h, h0, h1, h2, h3⟩ := h
  exact .tup h (.cons (dp_row h0) (.cons (dp_row h1) (.cons (dp_row h2) (.cons (dp_row h3) .nil))))
theorem row_show (f : Nat → Nat) (low : Low f) : (rowD f).showable = true ∧ (rowD f).hasDict = false ∧ (rowD f).depth ≤ 10 ∧ SeqAt.shaped (rowD f) = true := by
  have h : ∀ i, i < 8 → (f i) < 8 := low
  unfold rowD
  simp only [List.range, List.range.loop, List.map_cons, List.map_nil]
  have l : ∀ i, i < 8 → (f i).log2 < 1920 := fun i hi => by
    have h8 := h i hi
    have : ∀ n, n < 8 → n.log2 < 1920 := by decide
    exact this _ h8
  refine ⟨?_, ?_, ?_, ?_⟩
  · simp [PyData.showable, PyData.showableAll, l]
  · simp [PyData.hasDict, PyData.hasDictAll]
  · simp [PyData.depth, PyData.depthAll]
  · simp [SeqAt.shaped, PyData.canLay0, PyData.canLayAll0, PyData.depth, PyData.depthAll]
theorem row_len (f : Nat → Nat) (low : Low f) : (rowD f).leavesShort 8 = true ∧ (rowD f).weight ≤ 1000 := by
  have l : ∀ n, n < 8 → (PyData.shown (.int (n : Nat))).length ≤ 8 := by decide +kernel
  unfold rowD
  simp only [List.range, List.range.loop, List.map_cons, List.map_nil]
  refine ⟨?_, ?_⟩
  · simp [PyData.leavesShort, PyData.leavesShortAll, l _ (low _ _)]
  · have wt : ∀ n, n < 8 → (PyData.int (n : Nat)).weight ≤ 10 := by decide +kernel
    have w0 := wt _ (low 0 (by decide)); have w1 := wt _ (low 1 (by decide)); have w2 := wt _ (low 2 (by decide)); have w3 := wt _ (low 3 (by decide))
    have w4 := wt _ (low 4 (by decide)); have w5 := wt _ (low 5 (by decide)); have w6 := wt _ (low 6 (by decide)); have w7 := wt _ (low 7 (by decide))
    simp only [PyData.weight, PyData.weightAll] at w0 w1 w2 w3 w4 w5 w6 w7 ⊢
    omega
theorem tab_show (f : Nat → Nat → Nat) (low : ∀ k, Low (f k)) : (tabD f).showable = true ∧ (tabD f).hasDict = false ∧ (tabD f).depth ≤ 60 ∧ (tabD f).shown.length ≤ sizeLine ∧ SeqAt.shaped (tabD f) = true := by
  have r := fun k => row_show (f k) (low k)
  have n := fun k => row_len (f k) (low k)
  have d := fun k => (r k).2.2.1
  refine ⟨?_, ?_, ?_, ?_, ?_⟩
  · simp [tabD, PyData.showable, PyData.showableAll, (r _).1]
  · simp [tabD, PyData.hasDict, PyData.hasDictAll, (r _).2.1]
  · have d0 := d 0; have d1 := d 1; have d2 := d 2; have d3 := d 3
    simp only [tabD, PyData.depth, PyData.depthAll]
    omega
  · refine PyData.shown_fits (B := 8) (by decide) (by decide) ?_ ?_
    · simp [tabD, PyData.leavesShort, PyData.leavesShortAll, (n _).1]
    · have n0 := (n 0).2; have n1 := (n 1).2; have n2 := (n 2).2; have n3 := (n 3).2
      simp only [tabD, PyData.weight, PyData.weightAll]
      have : (2 : Nat) ^ 20 = 1048576 := by decide
      omega
  · have c : ∀ k, (rowD (f k)).canLay0 = true := fun k => (Bool.and_eq_true_iff.mp (r k).2.2.2).1
    have d0 := d 0; have d1 := d 1; have d2 := d 2; have d3 := d 3
    refine Bool.and_eq_true_iff.mpr ⟨by simp [tabD, PyData.canLay0, PyData.canLayAll0, c], decide_eq_true ?_⟩
    simp only [tabD, PyData.depth, PyData.depthAll]
    omega
/-! the text of a change, cut again -/
theorem no_comma : ∀ who0 ∈ allWho0, ∀ sign ∈ allSign, ∀ what ∈ allw, 44 ∉ (clT who0 sign what).cps.toList := by decide +kernel
theorem split_text {cs : List Cl} (ok : ∀ c ∈ cs, clOk c) (pos : 0 < cs.length) : Txt.split (Txt.join "," (cs.map clText)) "," = cs.map clText := by
  refine TL.split_join (y := ",") (s := 44) (S := []) (by decide +kernel) (by decide +kernel) (fun e => by
    have : (cs.map clText).length = 0 := by rw [e]; rfl
    rw [List.length_map] at this
    omega) fun p hp => ?_
  obtain ⟨c, hc, rfl⟩ := List.mem_map.mp hp
  have k := ok c hc
  exact no_comma _ (who0_in k.1) _ k.2.1 _ k.2.2
end KY
set_option Elab.async false
set_option linter.all false
set_option maxRecDepth 100000
set_option maxHeartbeats 4000000
namespace KY
open PySem PySem.Spec PyProof.Rows L2 Evl
local macro_rules | `(tactic| walk_at "ev") => `(tactic| repeat' (first | exact ev_c | exact ev_var rfl | exact rv_I0 | refine' rv_I ?_ | refine' rv_eq ?_ | refine' rv_ne ?_ | refine' ev_op ?_ ?_ ?_ | exact ea_nil | refine' ea_cons ?_ ?_ | refine' et_test ?_ | refine' et_B ?_ | refine' et_not ?_ | refine' ev_notV ?_))

open PySem
def gK2 (us ws : List V) : List V := match us, ws with | [x], [m, f] => [x, m, f] | _, _ => []
def gK2v (us ws : List Value) : List Value := match us, ws with | [x], [m, f] => [x, m, f] | _, _ => []
theorem kb_ch {w : World} {K : PySem.W.Frag} {mg : Str → Option Value} {a : Ads} (T : Txt w K mg a) : KBinds K a.d_ChangeD_callD ["self", "mode", "form"] ["mode", "form"] gK2v gK2 where
  to := fun s us ws X hl => by
    obtain ⟨oc, od, kV, doc, pm, an, cdv, ct, osl, e, lk, hcd⟩ := T.fn_ChangeD_callD.ex
    rw [e]
    match us, ws, hl with
    | [x], [f, m], _ => exact .of_eq rfl
  rel := fun {vs us zs ws} r1 r2 => by
    cases r1 with
    | nil => exact .nil
    | cons h1 t1 =>
      cases t1 with
      | cons _ _ => exact .nil
      | nil =>
        cases r2 with
        | nil => exact .nil
        | cons h2 t2 =>
          cases t2 with
          | nil => exact .nil
          | cons h3 t3 =>
            cases t3 with
            | nil => exact .cons h1 (.cons h2 (.cons h3 .nil))
            | cons _ _ => exact .nil
section
variable {X : Cx} {K : PySem.W.Frag} {a : Ads} {σ : L2.St} {H H' : Hp} {ta tb te tx tf tm tn tg t1 t2 : TE} {t tk : TA} {tt : TT} {x y z v : V} {r : R2} {D : Ends} {tz tu : TS} {E : XK} {g : TG} {cs : List Cl} {l p q : Addr} {zs : List V} {f : Nat → Nat → Nat} {form : Str} {n : Nat}
theorem ChangeAt.grow (m : ChangeAt K a H q cs) (e : ExB p H H') (hp : H p = some (.lst zs)) : ChangeAt K a H' q cs := by
  obtain ⟨dx, ct, tt, ps, h1, h2, h3, h4⟩ := m
  exact ⟨dx, ct, tt, ps, e _ _ h1 (fun z => by rw [z, hp] at h1; cases h1), grow_t e hp h2, h3.grow e hp, grow_tab e hp h4⟩
theorem ToldAt.grow (m : ToldAt H l cs) (e : ExB p H H') (hp : H p = some (.lst zs)) (ne : l ≠ p) : ToldAt H' l cs := by
  obtain ⟨ts, h1, h2, h3⟩ := m
  exact ⟨ts, e _ _ h1 ne, h2, fun i t c i1 i2 => e _ _ (h3 i t c i1 i2) fun z => by
    have := h3 i t c i1 i2
    rw [z, hp] at this
    cases this⟩
/-- a new tuple of two new tuples -/
def Ev2 (te : TE) (σ : L2.St) (H : Hp) (xs ys : List V) : Prop := ∀ H1, Ex H H1 → ∀ Q : VK, (∀ d p q H2, H1 d = none → Ex H1 H2 → H2 d = some (.tup [.ref p, .ref q]) → H2 p = some (.tup xs) → H2 q = some (.tup ys) → Q (.ref d) H2) → te σ H1 Q
theorem e2_tup {xs ys : List V} (h1 : EvU t1 σ H xs) (h2 : EvU t2 σ H ys) : Ev2 (tTup (tCons t1 (tCons t2 tNil))) σ H xs ys := fun H1 e Q q =>
  h1 H1 e _ fun p H2 _ e2 a => h2 H2 (e.trans e2) _ fun r H3 _ e3 b => ⟨by show 2 ≤ sizeLine; decide, fun d hd => q d p r _ (fresh_back (e2.trans e3) hd) ((e2.trans e3).trans (Ex.new hd)) upd_same (Ex.new hd _ _ (e3 _ _ a)) (Ex.new hd _ _ b)⟩
theorem q_asg2 {i : Nat} {xs ys : List V} (h : Ev2 te σ H xs ys) (k : ∀ d p q H1, Ex H H1 → H1 d = some (.tup [.ref p, .ref q]) → H1 p = some (.tup xs) → H1 q = some (.tup ys) → tz D (σ.set i (some (.ref d))) H1) : tSeq (tAsg te (gName i)) tz D σ H :=
  h H (Ex.refl H) _ fun d p q H1 _ e h0 h1 h2 => k d p q H1 e h0 h1 h2
theorem q_asgCat {i : Nat} {x1 x2 : V} {xs ys : List V} {d : Addr} (h0 : Ev ta σ H (.ref d)) (hd : H d = some (.tup [x1, x2])) (h : Ev2 te σ H xs ys) (k : ∀ d p q H1, Ex H H1 → H1 d = some (.tup [x1, x2, .ref p, .ref q]) → H1 p = some (.tup xs) → H1 q = some (.tup ys) → tz D (σ.set i (some (.ref d))) H1) :
    tSeq (tAsg (tOp (rCatT K) ta te) (gName i)) tz D σ H :=
  h0 H (Ex.refl H) _ fun H1 e1 => h H1 e1 _ fun d' p q H2 _ e2 b0 b1 b2 => ⟨d, d', [x1, x2], [.ref p, .ref q], rfl, rfl, st_of (e2 _ _ (e1 _ _ hd)), st_of b0, by simp, by show 4 ≤ sizeLine; decide, fun z => (nomatch z), fun _ u hu => k u p q _ ((e1.trans e2).trans (Ex.new hu)) upd_same (Ex.new hu _ _ b1) (Ex.new hu _ _ b2)⟩
theorem ev_repr {b : Addr} (h : Ev te σ H (.ref b)) (tab : TabR K H b f) (low : ∀ k, Low (f k)) : Ev (tCB (rRepr K) (tCons te tNil)) σ H (.str (tabD f).shown) := fun H1 e Q q => h H1 e _ fun H2 e2 => by
  obtain ⟨s1, s2, s3, s4, _⟩ := tab_show f low
  exact ⟨b, tabD f, rfl, dp_tab (tab.mono (e.trans e2)), s1, s2, s3, s4, q H2 e2⟩
theorem eqv_intsAll : ∀ a b : List Int, PyData.eqvAll (a.map PyData.int) (b.map PyData.int) = decide (a = b)
  | [], [] => by simp [PyData.eqvAll, PyData.eqv]
  | [], _ :: _ => by simp [PyData.eqvAll, PyData.eqv]
  | _ :: _, [] => by simp [PyData.eqvAll, PyData.eqv]
  | x :: a, y :: b => by
    have := eqv_intsAll a b
    simp only [List.map_cons, PyData.eqvAll, PyData.eqv, this]
    by_cases h : x = y <;> by_cases h2 : a = b <;> simp [h, h2]
theorem rv_neRow {b c : Addr} {f : Nat → Nat} (h1 : SqT K H b (rowV f)) (h2 : SqT K H c (rowV f)) (low : Low f) : RV (rNeD K) (.ref b) (.ref c) H (.bl false) := fun H1 e Q k =>
  ⟨rowD f, rowD f, dp_row (ex_t e h1), dp_row (ex_t e h2), (row_show f low).2.2.2, (row_show f low).2.2.2, by
    have : PyData.eqv (rowD f) (rowD f) = true := by
      unfold rowD
      rw [show PyData.eqv (.tuple ((List.range 8).map fun i => .int (f i : Nat))) (.tuple ((List.range 8).map fun i => .int (f i : Nat))) = PyData.eqvAll (((List.range 8).map fun i => ((f i : Nat) : Int)).map PyData.int) (((List.range 8).map fun i => ((f i : Nat) : Int)).map PyData.int) by simp [PyData.eqv, List.map_map]; rfl, eqv_intsAll, decide_eq_true rfl]
    rw [this]
    exact k H1 (Ex.refl H1)⟩
theorem rv_neI {b c : Addr} {ns : List Int} (h1 : H b = some (.lst (ns.map V.int))) (h2 : H c = some (.lst (ns.map V.int))) : RV (rNeD K) (.ref b) (.ref c) H (.bl false) := fun H1 e Q k =>
  ⟨.list (ns.map PyData.int), .list (ns.map PyData.int), .lst (sq_of (e _ _ h1)) (dp_ints ns), .lst (sq_of (e _ _ h2)) (dp_ints ns), PySem.W.ke_shaped_ints ns, PySem.W.ke_shaped_ints ns, by
    rw [show PyData.eqv (.list (ns.map PyData.int)) (.list (ns.map PyData.int)) = PyData.eqvAll (ns.map PyData.int) (ns.map PyData.int) by simp [PyData.eqv], eqv_intsAll, decide_eq_true rfl]
    exact k H1 (Ex.refl H1)⟩
theorem em_chOM (hf : Ev tf σ H (.ref p)) (hm : EvM a tm σ H n) (hg : Ev tg σ H (.str form)) (ch : ChangeAt K a H p cs) (ok : ∀ c ∈ cs, clOk c) (fm : form ∈ forms) (hn : n < 512) :
    EvM a (StX.tCallO X a.f_Change (fun vs H Q E => spChCall K a (vs ++ []) H Q E) E tf (tCons tm (tCons tg tNil))) σ H (foldN cs n form) := fun H1 e Q q =>
  hf H1 e _ fun H2 e2 => ⟨p, rfl, hm H2 (e.trans e2) _ fun m H3 _ e3 hm3 => hg H3 ((e.trans e2).trans e3) _ fun H4 e4 => by
    have c4 := ch.mono (((e.trans e2).trans e3).trans e4)
    obtain ⟨dx, ct, tt, ps, ho, _⟩ := id c4
    exact ⟨.inr ⟨dx, _, ho⟩, p, .ref m, n, cs, form, rfl, c4, ok, fm, hn, .inr ⟨m, rfl, hm3.mono e4⟩, fun q' H5 hq e5 m5 => q q' H5 (fresh_back ((e2.trans e3).trans e4) hq) (((e2.trans e3).trans e4).trans e5) m5⟩⟩
theorem em_chOK (hf : Ev tf σ H (.ref p)) (hm : Ev tn σ H (.int n)) (hg : Ev tg σ H (.str form)) (ch : ChangeAt K a H p cs) (ok : ∀ c ∈ cs, clOk c) (fm : form ∈ forms) (hn : n < 512) :
    EvM a (tCallOK a.f_Change (spChCall K a) gK2 E tf (tCons tn (tCons tg tNil))) σ H (foldN cs n form) := fun H1 e Q q =>
  hf H1 e _ fun H2 e2 => ⟨p, rfl, hm H2 (e.trans e2) _ fun H3 e3 => hg H3 ((e.trans e2).trans e3) _ fun H4 e4 => by
    have c4 := ch.mono (((e.trans e2).trans e3).trans e4)
    obtain ⟨dx, ct, tt, ps, ho, _⟩ := id c4
    exact ⟨⟨dx, _, ho⟩, p, .int n, n, cs, form, rfl, c4, ok, fm, hn, .inl rfl, fun q' H5 hq e5 m5 => q q' H5 (fresh_back ((e2.trans e3).trans e4) hq) (((e2.trans e3).trans e4).trans e5) m5⟩⟩
/-- i, j = two new modes -/
theorem q_asgMM {i j n1 n2 : Nat} (h1 : EvM a t1 σ H n1) (h2 : EvM a t2 σ H n2) (k : ∀ b c H1, Ex H H1 → ModeAt a H1 b n1 → ModeAt a H1 c n2 → tz D ((σ.set i (some (.ref b))).set j (some (.ref c))) H1) : tSeq (tAsg (tTup (tCons t1 (tCons t2 tNil))) (gTup K 2 (gCons (gName i) (gCons (gName j) gNil)))) tz D σ H :=
  h1 H (Ex.refl H) _ fun b H1 _ e1 m1 => h2 H1 e1 _ fun c H2 _ e2 m2 => ⟨by show 2 ≤ sizeLine; decide, fun T hT => ⟨T, _, rfl, st_of upd_same, rfl, _, _, rfl, _, _, rfl, rfl, k b c _ ((e1.trans e2).trans (Ex.new hT)) (m1.mono (e2.trans (Ex.new hT))) (m2.mono (Ex.new hT))⟩⟩
theorem rv_ownI {b c : Addr} {n m : Nat} (h1 : ModeAt a H b n) (h2 : ModeAt a H c m) : RV (rOwnI K a.f_Mode (fun vs H Q E => spMEq a (vs ++ []) H Q E) E) (.ref b) (.ref c) H (.bl (decide (V.int n = V.int m))) := fun H1 e Q k => by
  have m1 := h1.mono e
  have m2 := h2.mono e
  obtain ⟨dx, o1⟩ := id m1
  obtain ⟨dy, o2⟩ := id m2
  exact ⟨b, dx, _, c, dy, _, rfl, rfl, o1, o2, b, c, n, m, rfl, m1, m2, k⟩
theorem s_forNT {xs : List V} {tl : TE} (h : EvU tl σ H xs) (Pv : Addr → Nat → L2.St → Hp → Prop) (h0 : ∀ p H1, H p = none → Ex H H1 → H1 p = some (.tup xs) → Pv p 0 σ H1) (hl : ∀ p i σ' H', i ≤ xs.length → Pv p i σ' H' → SqT K H' p xs)
    (hs : ∀ p i x σ' H', xs[i]? = some x → Pv p i σ' H' → g x σ' H' fun σ2 H2 => tu { D with nx := Pv p (i + 1), ct := Pv p (i + 1), bk := D.nx } σ2 H2) (hd : ∀ p σ' H', Pv p xs.length σ' H' → D.nx σ' H') : tFor (iTup K tl) g tu D σ H :=
  h H (Ex.refl H) _ fun p H1 hp e h1 => ⟨p, rfl, ⟨xs, st_of h1⟩, for_tup (Pv p) (h0 p H1 hp e h1) (hl p) (hs p) (hd p)⟩
end
theorem form_at {k : Nat} {x : V} (h : ([.str "file", .str "folder"] : List V)[k]? = some x) : ∃ form ∈ forms, x = .str form := by
  have := List.mem_of_getElem? h
  rcases List.mem_cons.mp this with rfl | this
  · exact ⟨"file", by decide +kernel, rfl⟩
  · rw [List.mem_singleton.mp this]
    exact ⟨"folder", by decide +kernel, rfl⟩
end KY
set_option Elab.async false
set_option linter.all false
set_option maxRecDepth 100000
set_option maxHeartbeats 4000000
namespace KY
open PySem PySem.Spec PyProof.Rows L2 Evl
local macro_rules | `(tactic| walk_at "ev") => `(tactic| repeat' (first | exact ev_c | exact ev_var rfl | exact rv_I0 | refine' rv_I ?_ | refine' rv_eq ?_ | refine' rv_ne ?_ | refine' ev_op ?_ ?_ ?_ | exact ea_nil | refine' ea_cons ?_ ?_ | refine' et_test ?_ | refine' et_B ?_ | refine' et_not ?_ | refine' ev_notV ?_))

open PySem
/-! ### C.m(..), m a staticmethod; o.m(k = v) of an own method -/
def tSMeth (C : Addr) (sp : Sp) (E : XK) (ta : TE) (t : TA) : TE := fun σ H Q => ta σ H fun x H1 => x = .ref C ∧ t σ H1 fun vs H2 => sp vs H2 Q E
def tSMethK (C : Addr) (sp : Sp) (gV : List V → List V → List V) (E : XK) (ta : TE) (tk : TA) : TE := fun σ H Q => ta σ H fun x H1 => x = .ref C ∧ tk σ H1 fun zs H2 => sp (gV [] zs) H2 Q E
def tMethK (C : Addr) (m : Str) (sp : Sp) (gV : List V → List V → List V) (E : XK) (ta : TE) (tk : TA) : TE := fun σ H Q => ta σ H fun x H1 => ∃ a dx fs, x = .ref a ∧ H1 a = some (.ins C dx fs) ∧ fs.lookup m = none ∧ tk σ H1 fun zs H2 => sp (gV [x] zs) H2 Q E
section
variable {X : Cx} {CX : CXT} {k : Nat} {C p g : Addr} {sp : Sp} {E : XK} {o e : Expr} {es : List Expr} {m : Str} {pos apos : Pos} {ta : TE} {t tk : TA} {fd : FuncData} {ps ks : List Str} {kws : List Keyword} {gg : List Value → List Value → List Value} {gV : List V → List V → List V}
theorem getsm_ok {pl : Sem Bool} {pins : List (Addr × Obj)} {σ : L2.St} {H : Hp} {s : Shared} {A : Around} {E : Value → Shared → Prop} {Q : Value × List Value → Shared → Prop} (I : Inv X pins σ H s) (r : ClX.CRead X.K C (.type "type")) (c : SMet X.K C m p g)
    (h : ∀ s', Inv X pins σ H s' → Q (.ref g, []) s') : wpAny (model X.prog X.w) A (getMethod (.ref C) m pl) Q E s := by
  obtain ⟨rest, hp⟩ := c.rc
  refine PySem.W.method_cls I.kIn r.ga (PySem.W.cls_bind I.kIn r.rd c.at_ ?_)
  exact wpAny_call (PySem.W.sm_get (s := { s with toks := s.toks + 1 }) I.kIn hp (PySem.W.handed_on rfl (h _ (I.tok _))))
theorem pe_smeth {pl : Sem Bool} (he : PE X o ta) (r : ClX.CRead X.K C (.type "type")) (c : SMet X.K C m p g) (F : FnR X.prog X.w X.K X.mg X.base CX k g sp) (hr : Room k X.A) (hx : Passes CX X E) (ha : PA X (e :: es) t)
    (hst : starEach (e :: es) X.env = (false, eval e X.env) :: starEach es X.env := by rfl) (hpl : (backTo pos (starEach es X.env)).any (·.1) = false := by rfl)
    (ht : eval (.Call (.Attribute o m apos) (e :: es) [] pos) X.env = (do
      let ov ← eval o X.env
      standAt apos.atName
      let (f, first) ← holding [ov] (getMethod ov m pl)
      callWith pos f first (backTo pos (starEach (e :: es) X.env)) (backToKw pos (keywordEach [] X.env))) := by rfl) :
    PE X (.Call (.Attribute o m apos) (e :: es) [] pos) (tSMeth C sp E ta t) := by
  refine ⟨fun pins s σ H Q I h => ?_⟩
  refine PySem.W.methodCall_KW (pl := pl) (thn (he.run pins s σ H _ I h) fun u s1 ⟨x, H1, I1, rx, ex, q⟩ => ?_) ht
  subst ex
  obtain rfl : u = Value.ref C := rx
  refine getsm_ok I1 r c fun s2 I2 => ?_
  refine PySem.W.callWith_K (first := []) (h₀ := X.base) I2.ok.mod.kin c.kp (thn (ha.run pos pins s2 σ H1 _ I2 q) fun us s3 ⟨vs, H2, I3, rv, q2⟩ => ⟨I3.kIn, ?_⟩) hst hpl
  exact wpAny_call (run_fnR (us := us) (vs := vs) F hr hx I3 rv q2)
theorem pe_smethK {pl : Sem Bool} (he : PE X o ta) (r : ClX.CRead X.K C (.type "type")) (c : SMet X.K C m p g) (F : FnOk X.prog X.w X.K X.mg X.base CX k g fd ps sp) (hr : Room k X.A) (hb : KBinds X.K fd ps ks gg gV) (hx : Passes CX X E) (hkw : PK X kws tk)
    (hall : (backToKw pos (keywordEach kws X.env)).all (·.1.isSome) = true := by rfl) (hks : (backToKw pos (keywordEach kws X.env)).filterMap (·.1) = ks := by rfl)
    (hpl : ((backTo pos (starEach [] X.env)).any (·.1) || (backToKw pos (keywordEach kws X.env)).any (·.1.isNone)) = false := by rfl)
    (ht : eval (.Call (.Attribute o m apos) [] kws pos) X.env = (do
      let ov ← eval o X.env
      standAt apos.atName
      let (f, first) ← holding [ov] (getMethod ov m pl)
      callWith pos f first (backTo pos (starEach [] X.env)) (backToKw pos (keywordEach kws X.env))) := by rfl) :
    PE X (.Call (.Attribute o m apos) [] kws pos) (tSMethK C sp gV E ta tk) := by
  refine ⟨fun pins s σ H Q I h => ?_⟩
  refine PySem.W.methodCall_KW (pl := pl) (thn (he.run pins s σ H _ I h) fun u s1 ⟨x, H1, I1, rx, ex, q⟩ => ?_) ht
  subst ex
  obtain rfl : u = Value.ref C := rx
  refine getsm_ok I1 r c fun s2 I2 => ?_
  refine PySem.W.callWith_KW0 (first := []) (h₀ := X.base) I2.ok.mod.kin c.kp hall (thn (hkw.run pos pins s2 σ H1 _ I2 q) fun ws s3 ⟨zs, H2, I3, rz, q2⟩ => ⟨I3.kIn, ?_⟩) hpl
  rw [hks]
  exact run_fnk (us := []) (vs := []) F hr hb hx I3 .nil rz q2
theorem pe_methK {pl : Sem Bool} (he : PE X o ta) (c : Cls X.K C) (hm : Meth X.K C m g) (F : FnOk X.prog X.w X.K X.mg X.base CX k g fd ps sp) (hr : Room k X.A) (hb : KBinds X.K fd ps ks gg gV) (hx : Passes CX X E) (hkw : PK X kws tk)
    (hall : (backToKw pos (keywordEach kws X.env)).all (·.1.isSome) = true := by rfl) (hks : (backToKw pos (keywordEach kws X.env)).filterMap (·.1) = ks := by rfl)
    (hpl : ((backTo pos (starEach [] X.env)).any (·.1) || (backToKw pos (keywordEach kws X.env)).any (·.1.isNone)) = false := by rfl)
    (ht : eval (.Call (.Attribute o m apos) [] kws pos) X.env = (do
      let ov ← eval o X.env
      standAt apos.atName
      let (f, first) ← holding [ov] (getMethod ov m pl)
      callWith pos f first (backTo pos (starEach [] X.env)) (backToKw pos (keywordEach kws X.env))) := by rfl) :
    PE X (.Call (.Attribute o m apos) [] kws pos) (tMethK C m sp gV E ta tk) := by
  refine ⟨fun pins s σ H Q I h => ?_⟩
  refine PySem.W.methodCall_KW (pl := pl) (thn (he.run pins s σ H _ I h) fun u s1 ⟨x, H1, I1, rx, a, dx, fs, ex, ea, l, q⟩ => ?_) ht
  subst ex
  obtain rfl : u = Value.ref a := rx
  refine getmeth_ok I1 ea c hm l ?_
  refine PySem.W.callWith_KW0 (first := [.ref a]) (h₀ := X.base) I1.ok.mod.kin hm.kp hall (thn (hkw.run pos pins s1 σ H1 _ I1 q) fun ws s3 ⟨zs, H2, I3, rz, q2⟩ => ⟨I3.kIn, ?_⟩) hpl
  rw [hks]
  exact run_fnk (us := [.ref a]) (vs := [.ref a]) F hr hb hx I3 (.cons rfl .nil) rz q2
end

/-! ### C(*xs), C a class of the package; x != y and x * y of own instances; None in a list -/
section
variable {X : Cx} {CX : CXT} {k n : Nat} {C p g f : Addr} {sp : Sp} {E : XK} {e : Expr} {x : Str} {pos q p' : Pos} {te : TE}
theorem pe_makeGS (M : Mk X.K C f) (F : FnR X.prog X.w X.K X.mg X.base CX k f sp) (room : Room (k + 1) X.A) (hg : Gl X x) (hm : X.mg x = some (.ref C)) (hx : Passes CX X E) (he : PE X e te) (hd : (x == ("__debug__" : Str)) = false := by decide)
    (star : starEach [.Starred e q] X.env = [(true, eval e X.env)] := by rfl) :
    PE X (.Call (.Name x p') [.Starred e q] [] pos) (StX.tMakeR C sp E fun σ H Q => te σ H fun y H1 => ∃ b xs, y = V.ref b ∧ (SqT X.K H1 b xs ∨ SqL X.K H1 b xs) ∧ Q xs H1) where
  run := fun pins s σ H Q I go => by
    refine wpAny_Call_Name_kw (ld_glob I hg hm ?_ hd)
    refine PySem.W.callWith_S (h₀ := X.base) I.ok.mod.kin M.kp (thn (he.run pins s σ _ _ I go) fun v s2 ⟨y, H2, I2, ry, b, xs, ey, sq, want⟩ => ?_) star
    subst ey
    obtain rfl : v = Value.ref b := ry
    exact StX.star_any I2 sq fun us s3 I3 rv => ⟨I3.kIn, StX.run_makeR M F room hx I3 rv want⟩
end
namespace Ne
open PySem PySem.W
variable {M : Model} {prog : Program} {w : World} {A : Around} {E : Value → Shared → Prop} {s : Shared} {K : Frag} {x C f : Addr} {ox : Obj} {od : Option Obj}
theorem ifBound_ne {args : List Value} {Q : Option Value → Shared → Prop} (X : K.In s.heap) (I : InstAt s.heap x ox C od) (hs : findIn K (.ref C) "__ne__" = some (some (.builtin "object.__ne__")))
    (h : wpAny M A (call (.builtin "object.__ne__") (.ref x :: args)) (fun v => Q (some v)) E s) : wpAny M A (callSpecialIfBound? (.ref x) "__ne__" args) Q E s := by
  simp only [callSpecialIfBound?, bindSpecialIfBound?]
  refine wpAny_holding (wpAny_bind (wpAny_bind (wpAny_bind (I.type.here ((looks_findIn X hs).here ?_)))))
  refine wpAny_bind (wpAny_askSetting (wpAny_ite ?_))
  have done_ : wpAny M A (call (.builtin "object.__ne__") ([.ref x] ++ args) >>= fun v => pure (some v)) Q E s := wpAny_bind (wpAny_mono h (fun v s' h' => wpAny_pure h') fun _ _ h' => h')
  split
  · exact wpAny_bind (wpAny_of_eq (F.cmp_object.ne.bind _) (wpAny_pure (by exact done_)))
  · exact wpAny_tryCatch (wpAny_bind (wpAny_of_eq (F.cmp_object.ne.bind _) (wpAny_pure (by exact done_))))
theorem entry_ne {y : Value} {Q : Fin → Shared → Prop} (hu : A.units < cLine) (X : K.In s.heap) (I : InstAt s.heap x ox C od) (hs : findIn K (.ref C) "__eq__" = some (some (.ref f))) (hf : isFn K (.ref f) = true)
    (h : wpAny M A (call (.ref f) [.ref x, y]) (fun v s' => ∃ b, v = .bool b ∧ Q (.done (.ret (.bool (!b)))) s') E s) : wpAny M A (Builtin.«object.__ne__» ⟨[.ref x, y], []⟩) Q E s := by
  unfold Builtin.«object.__ne__»
  repeat (first
    | with_reducible refine wpAny_cRoomFor hu ?_
    | (refine wpAny_bind (m := callSpecialIfBound? (.ref x) (Str.ofString "__eq__") [y]) (ifBound_K X I hs hf (wpAny_mono h (fun r s' hr => by
          obtain ⟨b, rfl, hq⟩ := hr
          repeat (first | exact hq | exact wpAny_pure hq | exact wpAny_truthy_bool hq | (refine wpAny_bind (m := truthy (.bool _)) (wpAny_truthy_bool ?_)) | wp_step)) fun _ _ e => e)))
    | wp_step)
theorem rich_ne {y : Value} {Q : Value → Shared → Prop} (hu : A.units + 1 < cLine) (X : K.In s.heap) (I : InstAt s.heap x ox C od) (hy : Looks (model prog w) s.heap (typeOf y) (.ref C)) (hm : mroIn K C (.type "object") = some true)
    (hn : findIn K (.ref C) "__ne__" = some (some (.builtin "object.__ne__"))) (hs : findIn K (.ref C) "__eq__" = some (some (.ref f))) (hf : isFn K (.ref f) = true)
    (h : wpAny (model prog w) A.in1 (call (.ref f) [.ref x, y]) (fun v s' => ∃ b, v = .bool b ∧ Q (.bool (!b)) s') E s) : wpAny (model prog w) A (richCompare .NotEq (.ref x) y) Q E s := by
  have one : wpAny (model prog w) A (tryCompare (.ref x) "__ne__" y) (fun r s' => ∃ b, r = some (.bool b) ∧ Q (.bool b) s') E s := by
    unfold tryCompare
    refine wpAny_bind (ifBound_ne X I hn (wpAny_call (codeAny_call_builtin F.cmp_object.ne.plain F.cmpEntry_ne (check_slot F.cmpKind_ne F.cmpSplit_ne (I.type.andThen (looks_mroIn X hm)) (F.cmpArgs_ne _ _)
      (entry_ne (A := A.in1) (y := y) hu X I hs hf (wpAny_mono h (fun v s' hv => ?_) fun _ _ e => e))))))
    obtain ⟨b, rfl, hq⟩ := hv
    first | exact ⟨b, rfl, wpAny_pure ⟨!b, rfl, hq⟩⟩ | exact ⟨b, rfl, wpAny_pure (wpAny_pure ⟨!b, rfl, hq⟩)⟩ | exact ⟨b, rfl, ⟨!b, rfl, hq⟩⟩
  unfold richCompare
  simp only [oneThing_ref]
  refine wpAny_holding (wpAny_bind (wpAny_cRoomFor (Nat.lt_of_succ_lt hu) ?_))
  rw [cmpInfo_NotEq]
  dsimp only
  refine wpAny_bind (I.type.here (wpAny_bind (hy.here ?_)))
  rw [show (Value.ref C != Value.ref C) = false from by simp]
  simp only [Bool.false_eq_true, if_false]
  refine wpAny_bind (wpAny_pure ?_)
  simp only [Bool.false_eq_true, if_false]
  refine wpAny_bind (wpAny_mono one (fun r s' z => ?_) fun _ _ e => e)
  obtain ⟨b, rfl, hq⟩ := z
  first | exact wpAny_pure hq | exact wpAny_pure (wpAny_pure hq)
end Ne
end KY
set_option Elab.async false
set_option linter.all false
set_option maxRecDepth 100000
set_option maxHeartbeats 4000000
namespace KY
open PySem PySem.Spec PyProof.Rows L2 Evl
local macro_rules | `(tactic| walk_at "ev") => `(tactic| repeat' (first | exact ev_c | exact ev_var rfl | exact rv_I0 | refine' rv_I ?_ | refine' rv_eq ?_ | refine' rv_ne ?_ | refine' ev_op ?_ ?_ ?_ | exact ea_nil | refine' ea_cons ?_ ?_ | refine' et_test ?_ | refine' et_B ?_ | refine' et_not ?_ | refine' ev_notV ?_))

open PySem
/-! ### x != y, x * y of own instances; None in a list -/
def rOwnNe (C : Addr) (sp : Sp) (E : XK) : R2 := fun x y H Q => ∃ (p dx : Addr) (fs : List (Str × V)) (q dy : Addr) (gs : List (Str × V)), x = .ref p ∧ y = .ref q ∧ H p = some (.ins C dx fs) ∧ H q = some (.ins C dy gs) ∧ sp [x, y] H (fun v H' => ∃ b, v = .bl b ∧ Q (.bl (!b)) H') E
section
variable {X : Cx} {CX : CXT} {C g : Addr} {n : Nat} {sp : Sp} {E : XK}
theorem op_ownNe (hn : PySem.W.findIn X.K (.ref C) "__ne__" = some (some (.builtin "object.__ne__"))) (hm : PySem.W.mroIn X.K C (.type "object") = some true) (hs : PySem.W.findIn X.K (.ref C) "__eq__" = some (some (.ref g))) (hf : PySem.W.isFn X.K (.ref g) = true)
    (F : FnR X.prog X.w X.K X.mg X.base CX n g sp) (room : Room (n + 1) X.A) (hx : Passes CX X E) : OpR X (compareOp .NotEq) (rOwnNe C sp E) := by
  intro pins s σ H x y v u Q I rx ry told
  obtain ⟨p, dx, fs, q, dy, gs, rfl, rfl, hp, hq, want⟩ := told
  obtain rfl : v = Value.ref p := rx
  obtain rfl : u = Value.ref q := ry
  obtain ⟨o1, d1, J1, _⟩ := StX.insC_at (X := X) I (.inr ⟨dx, fs, hp⟩)
  obtain ⟨o2, d2, J2, _⟩ := StX.insC_at (X := X) I (.inr ⟨dy, gs, hq⟩)
  have hu : X.A.units + 1 < cLine := by have := room.units; omega
  show wpAny (model X.prog X.w) X.A (richCompare .NotEq (.ref p) (.ref q)) _ _ _
  refine Ne.rich_ne hu I.kIn J1 J2.type hm hn hs hf (wpAny_mono (wpAny_call (SlX.run_at (us := [.ref p, .ref q]) (ws := [.ref p, .ref q]) F room.in1 I.env0.in1 hx I (.cons rfl (.cons rfl .nil)) want)) (fun r s' got => ?_) fun _ _ same => same)
  obtain ⟨z, H', I', rz, b, rfl, want2⟩ := got
  obtain rfl : r = Value.bool b := rz
  exact ⟨b, rfl, .bl (!b), H', I', rfl, want2⟩
theorem op_ownBin {op : Operator} (first : PySem.W.selfFirst X.K C = true) (hs : PySem.W.findIn X.K (.ref C) (PySem.dunder op.info.2) = some (some (.ref g))) (hf : PySem.W.isFn X.K (.ref g) = true)
    (F : FnR X.prog X.w X.K X.mg X.base CX n g sp) (room : Room n X.A) (hx : Passes CX X E) : OpR X (binaryOp op) (rOwnI X.K C sp E) := by
  intro pins s σ H x y v u Q I rx ry told
  obtain ⟨p, dx, fs, q, dy, gs, rfl, rfl, hp, hq, want⟩ := told
  obtain rfl : v = Value.ref p := rx
  obtain rfl : u = Value.ref q := ry
  obtain ⟨o1, d1, J1, _⟩ := StX.insC_at (X := X) I (.inr ⟨dx, fs, hp⟩)
  obtain ⟨o2, d2, J2, _⟩ := StX.insC_at (X := X) I (.inr ⟨dy, gs, hq⟩)
  obtain ⟨m, hF⟩ := I.fr
  refine PySem.W.binop_K (op := op) hF I.ok.mod.kin J1 J2.type first hs hf (wpAny_mono (wpAny_call (run_fnR (us := [.ref p, .ref q]) (vs := [.ref p, .ref q]) F room hx I (.cons rfl (.cons rfl .nil)) want)) (fun r s' got => ?_) fun _ _ same => same)
  obtain ⟨z, H', I', rz, end_⟩ := got
  exact SlX.cmpback rz ⟨z, H', I', rz, end_⟩
end
/-- None, or a tuple -/
def NoneTup (K : PySem.W.Frag) (H : Hp) (z : V) : Prop := z = .non ∨ ∃ p xs, z = .ref p ∧ SqT K H p xs
section
variable {X : Cx}
theorem noneTup_eq {A : Around} {pins : List (Addr × Obj)} {σ : L2.St} {H : Hp} {s : Shared} (I : Inv X pins σ H s) (hu : A.units < cLine) {z : V} {u : Value} (r : RelV z u) (f : NoneTup X.K H z) : SeqAt.EqAt A s u .none (PySem.Numpy.isNone u) ∧ PySem.Numpy.isNone u = isNon z := by
  rcases f with rfl | ⟨p, xs, rfl, h⟩
  · cases r
    exact ⟨SeqAt.EqAt.same _, rfl⟩
  · cases r
    obtain ⟨its, rv, ⟨o, ho, hc, n, hd⟩, _⟩ := I.tuple h
    exact ⟨SeqAt.EqAt.tuple_none ⟨o, ho, hc, n, hd⟩ hu, rfl⟩
theorem noneTup_all {A : Around} {pins : List (Addr × Obj)} {σ : L2.St} {H : Hp} {s : Shared} (I : Inv X pins σ H s) (hu : A.units < cLine) : ∀ {xs : List V} {us : List Value}, Vals xs us → (∀ z ∈ xs, NoneTup X.K H z) → (∀ u ∈ us, SeqAt.EqAt A s u .none (PySem.Numpy.isNone u)) ∧ us.any PySem.Numpy.isNone = xs.any isNon
  | _, _, .nil, _ => ⟨fun u m => (nomatch m), rfl⟩
  | y :: xs, u :: us, .cons r t, f => by
    obtain ⟨h1, h2⟩ := noneTup_eq I hu r (f y (List.mem_cons_self ..))
    obtain ⟨t1, t2⟩ := noneTup_all I hu t fun z m => f z (List.mem_cons_of_mem _ m)
    refine ⟨fun q m => ?_, by rw [List.any_cons, List.any_cons, h2, t2]⟩
    rcases List.mem_cons.mp m with e | m
    · subst e
      exact h1
    · exact t1 q m
def rNonNotT (K : PySem.W.Frag) : R2 := fun x y H Q => ∃ p xs, x = .non ∧ y = .ref p ∧ SqL K H p xs ∧ (∀ z ∈ xs, NoneTup K H z) ∧ Q (.bl (!xs.any isNon)) H
theorem op_nonNotT (hu : X.A.units + 64 < cLine) : OpR X (compareOp .NotIn) (rNonNotT X.K) := by
  intro pins s σ H x y v u Q I rx ry h
  obtain ⟨p, xs, rfl, rfl, hq, f, q⟩ := h
  cases rx
  cases ry
  obtain ⟨its, rv, hl, _⟩ := I.list hq
  have hu1 : X.A.in1.units < cLine := by show X.A.units + 1 < cLine; omega
  obtain ⟨a1, a2⟩ := noneTup_all (A := X.A.in1) I hu1 rv f
  refine SeqAt.notIn_listAt PySem.Numpy.isNone hl.isList (fun z hz => a1 z (by simpa using hz)) ⟨.bl _, H, I, rfl, ?_⟩
  rw [show its.toArray.any PySem.Numpy.isNone = its.any PySem.Numpy.isNone by simp, a2]
  exact q
end
/-- two clauses, two changes, with the same parts -/
def SameC (K : PySem.W.Frag) (a : Ads) (p q : Addr) (H : Hp) : Prop := ∃ c : Cl, ClauseAt K a H p c.1 c.2.1 c.2.2 ∧ ClauseAt K a H q c.1 c.2.1 c.2.2
def SameCh (K : PySem.W.Frag) (a : Ads) (p q : Addr) (H : Hp) : Prop := ∃ cs : List Cl, ChangeAt K a H p cs ∧ ChangeAt K a H q cs
theorem sameC_mono {K : PySem.W.Frag} {a : Ads} {p q : Addr} {H H' : Hp} (e : Ext H H') (h : SameC K a p q H) : SameC K a p q H' := by
  obtain ⟨c, h1, h2⟩ := h
  exact ⟨c, h1.mono e, h2.mono e⟩
theorem sameCh_mono {K : PySem.W.Frag} {a : Ads} {p q : Addr} {H H' : Hp} (e : Ext H H') (h : SameCh K a p q H) : SameCh K a p q H' := by
  obtain ⟨c, h1, h2⟩ := h
  exact ⟨c, h1.mono e, h2.mono e⟩
theorem rv_eqG {D : Eqv} {x y : V} {H : Hp} (hD : Mon D) (h : D x y H) : RV (rEqG D) x y H (.bl true) := fun H1 e Q q => ⟨hD x y H H1 e h, fun H2 e2 => q H2 e2⟩
theorem chf_clauses (ct tt : Addr) : (putF "_tables" (V.ref tt) (putF "_clauses" (V.ref ct) [])).lookup ("_clauses" : Str) = some (.ref ct) := by
  rw [lookup_putF, if_neg (by decide +kernel), lookup_putF, if_pos rfl]
section
variable {P : Program} {w : World} {K : PySem.W.Frag} {mg : Str → Option Value} {base : Heap} {a : Ads}
theorem tyx_change (T : Txt w K mg a) {H : Hp} {p : Addr} {cs : List Cl} (m : ChangeAt K a H p cs) : TyX K H (.ref p) (.ref a.f_Change) := by
  obtain ⟨dx, ct, tt, ps, h, _⟩ := m
  exact .base (.ins h T.c_Change T.ia_Change T.in_ T.it_ T.im_Change)
theorem ok_Clause_eq (T : Txt w K mg a) : FnOk P w K mg base CX0 1 a.f_ClauseD_eqD a.d_ClauseD_eqD ["self", "other"] (spEq (SameC K a)) := by
  refine T.fn_ClauseD_eqD.ok sc_ClauseD_eqD (fun vs H Q E h => ?_) (fun cdv A outer s H vs Q E hr h => ?_)
  · obtain ⟨_, _, rfl, _⟩ := h
    rfl
  · obtain ⟨p, q, rfl, ⟨c, m1, m2⟩, k⟩ := h
    refine ⟨_, (pss_one (ps_ret (pe_and (pe_callB call_isi (by rfl) T.b_isinstance PyProof.Rows.boot_isinstance (pa_cons (pv 1) (pa_cons (pe_glob (v := .ref a.f_Clause) rfl T.mg_Clause rfl) pa_nil))) (pe_and (pe_cmpR op_eq (pe_fld (pv 0) rfl) (pe_fld (pv 1) rfl) (nomark _)) (pe_and (pe_cmpR op_eq (pe_fld (pv 0) rfl) (pe_fld (pv 1) rfl) (nomark _)) (pe_one (pe_cmpR op_eq (pe_fld (pv 0) rfl) (pe_fld (pv 1) rfl) (nomark _)))))))), ?_⟩
    obtain ⟨dx, t, ho, _⟩ := m1.ob
    obtain ⟨dy, u, hq, _⟩ := id m2.ob
    exact s_ret (v := .bl true) (ev_is (ev_andV (a := true) (ev_isi (ea_cons (ev_var rfl) (ea_cons ev_c ea_nil)) (.own _) (fun H' e' => tyx_clause T (m2.mono e')) T.is_Clause) fun _ => ev_andV (ev_op (ev_fld (ev_var rfl) ho T.c_Clause T.n_who_Clause (fs_who _ _ _ t)) (ev_fld (ev_var rfl) hq T.c_Clause T.n_who_Clause (fs_who _ _ _ u)) (rv_eq rfl)) fun _ => ev_andV (ev_op (ev_fld (ev_var rfl) ho T.c_Clause T.n_sign_Clause (fs_sign _ _ _ t)) (ev_fld (ev_var rfl) hq T.c_Clause T.n_sign_Clause (fs_sign _ _ _ u)) (rv_eq rfl)) fun _ => ev_op (ev_fld (ev_var rfl) ho T.c_Clause T.n_what_Clause (fs_what _ _ _ t)) (ev_fld (ev_var rfl) hq T.c_Clause T.n_what_Clause (fs_what _ _ _ u)) (rv_eq rfl)) (by simp)) fun H1 e1 => k H1 e1
theorem ok_Change_eq (T : Txt w K mg a) : FnOk P w K mg base CX0 4 a.f_ChangeD_eqD a.d_ChangeD_eqD ["self", "other"] (spEq (SameCh K a)) := by
  have G : FnOk P w K mg base CX0 1 _ _ _ _ := ok_Clause_eq T
  refine T.fn_ChangeD_eqD.ok sc_ChangeD_eqD (fun vs H Q E h => ?_) (fun cdv A outer s H vs Q E hr h => ?_)
  · obtain ⟨_, _, rfl, _⟩ := h
    rfl
  · obtain ⟨p, q, rfl, ⟨cs, m1, m2⟩, k⟩ := h
    refine ⟨_, (pss_one (ps_ret (pe_and (pe_callB call_isi (by rfl) T.b_isinstance PyProof.Rows.boot_isinstance (pa_cons (pv 1) (pa_cons (pe_glob (v := .ref a.f_Change) rfl T.mg_Change rfl) pa_nil))) (pe_one (pe_cmpR (op_eqG (rcG_tup (n := 1) (mon_ins (R := SameC K a) fun _ _ _ _ e h => sameC_mono e h) (eqG_ins (R := SameC K a) G T.m_ClauseD_eqD.at_ T.m_ClauseD_eqD.fn (bd_ClauseD_eqD T) pass0)) (hr.mono (by decide))) (pe_fld (pv 0) rfl) (pe_fld (pv 1) rfl) (nomark _)))))), ?_⟩
    obtain ⟨dx, ct, tt, ps, ho, seq, cls, _⟩ := m1
    obtain ⟨dy, cu, tu, qs, hq, seq2, cls2, _⟩ := id m2
    have prs : Prs (DIns a.f_Clause (SameC K a)) (ps.map V.ref) (qs.map V.ref) H := ⟨by rw [List.length_map, List.length_map, cls.1, cls2.1], fun i x y hx hy => by
      rw [List.getElem?_map] at hx hy
      obtain ⟨b, hb, rfl⟩ := Option.map_eq_some_iff.mp hx
      obtain ⟨d, hd, rfl⟩ := Option.map_eq_some_iff.mp hy
      have hi : i < cs.length := by rw [← cls.1]; exact (List.getElem?_eq_some_iff.mp hb).1
      have c1 := cls.2 i b cs[i] hb (by simp [hi])
      have c2 := cls2.2 i d cs[i] hd (by simp [hi])
      obtain ⟨d1, t1, o1, _⟩ := id c1.ob
      obtain ⟨d2, t2, o2, _⟩ := id c2.ob
      exact ⟨b, d, d1, d2, _, _, rfl, rfl, o1, o2, cs[i], c1, c2⟩⟩
    exact s_ret (v := .bl true) (ev_is (ev_andV (a := true) (ev_isi (ea_cons (ev_var rfl) (ea_cons ev_c ea_nil)) (.own _) (fun H' e' => tyx_change T (m2.mono e')) T.is_Change) fun _ => ev_op (ev_fld (ev_var rfl) ho T.c_Change T.n_clauses_Change (chf_clauses ct tt)) (ev_fld (ev_var rfl) hq T.c_Change T.n_clauses_Change (chf_clauses cu tu)) (rv_eqG (mon_tup (mon_ins (R := SameC K a) fun _ _ _ _ e h => sameC_mono e h)) ⟨ct, cu, _, _, rfl, rfl, seq, seq2, prs⟩)) (by simp)) fun H1 e1 => k H1 e1
end
end KY
set_option Elab.async false
set_option linter.all false
set_option maxRecDepth 100000
set_option maxHeartbeats 4000000
namespace KY
open PySem PySem.Spec PyProof.Rows L2 Evl
local macro_rules | `(tactic| walk_at "ev") => `(tactic| repeat' (first | exact ev_c | exact ev_var rfl | exact rv_I0 | refine' rv_I ?_ | refine' rv_eq ?_ | refine' rv_ne ?_ | refine' ev_op ?_ ?_ ?_ | exact ea_nil | refine' ea_cons ?_ ?_ | refine' et_test ?_ | refine' et_B ?_ | refine' et_not ?_ | refine' ev_notV ?_))

open PySem
theorem hr65 {k : Nat} {A : Around} (r : Room k A) : A.units + 65 < cLine := by have := r.un; omega
def uni (p : Nat) : Nat := 448 * (p / 4) + 56 * (p / 2 % 2) + 7 * (p % 2)
theorem uni_is : ∀ p : Nat, p < 8 → uni p < 512 ∧ patN (uni p) 4 = p ∧ patN (uni p) 2 = p ∧ patN (uni p) 1 = p := by
  have h : ((List.range 8).all fun (p : Nat) => decide (uni p < 512 ∧ patN (uni p) 4 = p ∧ patN (uni p) 2 = p ∧ patN (uni p) 1 = p)) = true := by decide +kernel
  exact fun p hp => of_decide_eq_true (all_nat h p hp)
theorem map_range_eq {α : Type} {f g : Nat → α} : (List.range 8).map f = (List.range 8).map g ↔ ∀ p, p < 8 → f p = g p := by
  constructor
  · intro h p hp
    have := congrArg (fun l => l[p]?) h
    simp only [List.getElem?_map, List.getElem?_range hp, Option.map_some] at this
    exact Option.some.inj this
  · intro h
    apply List.map_congr_left
    intro p hp
    exact h p (List.mem_range.mp hp)
/-! ### where two changes part -/
def differs (cs ds : List Cl) (form : Str) (p : Nat) : Bool := decide (foldN cs (uni p) form ≠ foldN ds (uni p) form)
def firstP (cs ds : List Cl) (form : Str) : Option Nat := (List.range 8).find? (differs cs ds form)
def apart (cs ds : List Cl) : Option (Str × Nat) := match firstP cs ds "file" with
  | some p => some ("file", p)
  | none => (firstP cs ds "folder").map fun p => ("folder", p)
def rowL (f : Nat → Nat) : List Nat := (List.range 8).map f
theorem firstP_symm (cs ds : List Cl) (form : Str) : firstP cs ds form = firstP ds cs form := by
  unfold firstP
  congr 1
  funext p
  unfold differs
  exact decide_eq_decide.mpr ⟨Ne.symm, Ne.symm⟩
theorem apart_symm (cs ds : List Cl) : apart cs ds = apart ds cs := by
  unfold apart
  rw [firstP_symm cs ds "file", firstP_symm cs ds "folder"]
theorem firstP_some {cs ds : List Cl} {form : Str} {p : Nat} (h : firstP cs ds form = some p) : p < 8 ∧ differs cs ds form p = true := ⟨List.mem_range.mp (List.mem_of_find?_eq_some h), List.find?_some h⟩
theorem firstP_none {cs ds : List Cl} {form : Str} (h : firstP cs ds form = none) {p : Nat} (hp : p < 8) : foldN cs (uni p) form = foldN ds (uni p) form := by
  have := List.find?_eq_none.mp h p (List.mem_range.mpr hp)
  unfold differs at this
  exact Classical.byContradiction fun z => this (decide_eq_true z)
theorem none_of {cs ds : List Cl} {form : Str} (h : ∀ p, p < 8 → foldN cs (uni p) form = foldN ds (uni p) form) : firstP cs ds form = none :=
  List.find?_eq_none.mpr fun p hp => by
    unfold differs
    rw [h p (List.mem_range.mp hp)]
    simp
theorem uni_tabs {cs : List Cl} {form : Str} (ok : ∀ c ∈ cs, clOk c) (hf : form ∈ forms) {p : Nat} (hp : p < 8) : patN (foldN cs (uni p) form) 4 = foldT cs 0 p ∧ patN (foldN cs (uni p) form) 2 = foldT cs 1 p ∧ patN (foldN cs (uni p) form) 1 = foldT cs (xK form) p := by
  obtain ⟨u, u4, u2, u1⟩ := uni_is p hp
  obtain ⟨a4, a2, a1⟩ := pat_fold cs ok hf u
  rw [u4] at a4
  rw [u2] at a2
  rw [u1] at a1
  exact ⟨a4, a2, a1⟩
theorem tabs_none {cs ds : List Cl} {form : Str} (okc : ∀ c ∈ cs, clOk c) (okd : ∀ c ∈ ds, clOk c) (hf : form ∈ forms) : firstP cs ds form = none ↔ ∀ p, p < 8 → foldT cs 0 p = foldT ds 0 p ∧ foldT cs 1 p = foldT ds 1 p ∧ foldT cs (xK form) p = foldT ds (xK form) p := by
  constructor
  · intro h p hp
    have e := firstP_none h hp
    obtain ⟨a4, a2, a1⟩ := uni_tabs okc hf hp
    obtain ⟨b4, b2, b1⟩ := uni_tabs okd hf hp
    rw [e] at a4 a2 a1
    exact ⟨a4.symm.trans b4, a2.symm.trans b2, a1.symm.trans b1⟩
  · intro h
    refine none_of fun p hp => ?_
    obtain ⟨u, _⟩ := uni_is p hp
    obtain ⟨a4, a2, a1⟩ := uni_tabs okc hf hp
    obtain ⟨b4, b2, b1⟩ := uni_tabs okd hf hp
    rw [← parts_are _ (fold_lt cs u), ← parts_are _ (fold_lt ds u), a4, a2, a1, b4, b2, b1, (h p hp).1, (h p hp).2.1, (h p hp).2.2]
theorem all_same {cs ds : List Cl} {form : Str} (okc : ∀ c ∈ cs, clOk c) (okd : ∀ c ∈ ds, clOk c) (hf : form ∈ forms) (h : firstP cs ds form = none) {n : Nat} (hn : n < 512) : foldN cs n form = foldN ds n form := by
  have t := (tabs_none okc okd hf).mp h
  obtain ⟨a4, a2, a1⟩ := pat_fold cs okc hf hn
  obtain ⟨b4, b2, b1⟩ := pat_fold ds okd hf hn
  rw [← parts_are _ (fold_lt cs hn), ← parts_are _ (fold_lt ds hn), a4, a2, a1, b4, b2, b1, (t _ (pat_lt 4 (by decide) n hn)).1, (t _ (pat_lt 2 (by decide) n hn)).2.1, (t _ (pat_lt 1 (by decide) n hn)).2.2]
theorem xK_is : xK "file" = 2 ∧ xK "folder" = 3 := by
  unfold xK
  decide +kernel
theorem part_tabs {cs ds : List Cl} (okc : ∀ c ∈ cs, clOk c) (okd : ∀ c ∈ ds, clOk c) : apart cs ds = none ↔ ∀ k, k < 4 → ∀ p, p < 8 → foldT cs k p = foldT ds k p := by
  have f1 : ("file" : Str) ∈ forms := by decide +kernel
  have f2 : ("folder" : Str) ∈ forms := by decide +kernel
  have t1 := tabs_none okc okd f1
  have t2 := tabs_none okc okd f2
  rw [xK_is.1] at t1
  rw [xK_is.2] at t2
  unfold apart
  constructor
  · intro h
    have n1 : firstP cs ds "file" = none := by
      cases q : firstP cs ds "file" with
      | none => rfl
      | some p => rw [q] at h; cases h
    rw [n1] at h
    have n2 : firstP cs ds "folder" = none := by
      cases q : firstP cs ds "folder" with
      | none => rfl
      | some p => rw [q] at h; cases h
    intro k hk p hp
    obtain ⟨a, b, c⟩ := t1.mp n1 p hp
    obtain ⟨_, _, d⟩ := t2.mp n2 p hp
    match k, hk with
    | 0, _ => exact a
    | 1, _ => exact b
    | 2, _ => exact c
    | 3, _ => exact d
  · intro h
    have n1 := t1.mpr fun p hp => ⟨h 0 (by decide) p hp, h 1 (by decide) p hp, h 2 (by decide) p hp⟩
    have n2 := t2.mpr fun p hp => ⟨h 0 (by decide) p hp, h 1 (by decide) p hp, h 3 (by decide) p hp⟩
    rw [n1, n2]
    rfl
theorem part_at {cs ds : List Cl} {form : Str} {p : Nat} (h : apart cs ds = some (form, p)) : p < 8 ∧ form ∈ forms ∧ firstP cs ds form = some p ∧ (form = "folder" → firstP cs ds "file" = none) := by
  unfold apart at h
  cases q : firstP cs ds "file" with
  | some r =>
    rw [q] at h
    cases h
    exact ⟨(firstP_some q).1, by decide +kernel, q, fun z => absurd z (by decide +kernel)⟩
  | none =>
    rw [q] at h
    obtain ⟨r, hr, e⟩ := Option.map_eq_some_iff.mp h
    cases e
    exact ⟨(firstP_some hr).1, by decide +kernel, hr, fun _ => rfl⟩
/-! ### tuples of numbers, lists of such, as data -/
def tupD (ns : List Nat) : PyData := .tuple (ns.map fun (n : Nat) => .int (n : Int))
def numV (ns : List Nat) : List V := ns.map fun (n : Nat) => V.int (n : Int)
theorem dp_nums {K : PySem.W.Frag} {H : Hp} : ∀ ns : List Nat, DpAll K H (numV ns) (ns.map fun (n : Nat) => PyData.int (n : Int))
  | [] => .nil
  | n :: ns => .cons (.int _) (dp_nums ns)
theorem dp_tupN {K : PySem.W.Frag} {H : Hp} {p : Addr} {ns : List Nat} (h : SqT K H p (numV ns)) : Dp K H (.ref p) (tupD ns) := .tup h (dp_nums ns)
theorem eqv_nats : ∀ a b : List Nat, PyData.eqvAll (a.map fun (n : Nat) => PyData.int (n : Int)) (b.map fun (n : Nat) => PyData.int (n : Int)) = decide (a = b)
  | [], [] => by simp [PyData.eqvAll]
  | [], _ :: _ => by simp [PyData.eqvAll]
  | _ :: _, [] => by simp [PyData.eqvAll]
  | x :: a, y :: b => by
    have := eqv_nats a b
    simp only [List.map_cons, PyData.eqvAll, PyData.eqv, this]
    by_cases h : x = y <;> by_cases h2 : a = b <;> simp [h, h2]
    omega
theorem eqv_tup (a b : List Nat) : PyData.eqv (tupD a) (tupD b) = decide (a = b) := by
  rw [show PyData.eqv (tupD a) (tupD b) = PyData.eqvAll (a.map fun (n : Nat) => PyData.int (n : Int)) (b.map fun (n : Nat) => PyData.int (n : Int)) by simp [tupD, PyData.eqv], eqv_nats]
theorem eqv_rows (f g : Nat → Nat) : PyData.eqv (rowD f) (rowD g) = decide (rowL f = rowL g) := by
  have e : ∀ f, rowD f = tupD (rowL f) := fun f => by
    unfold rowD tupD rowL
    simp
  rw [e, e, eqv_tup]
theorem eqv_tabs (f g : Nat → Nat → Nat) : PyData.eqv (tabD f) (tabD g) = true ↔ ∀ k, k < 4 → ∀ p, p < 8 → f k p = g k p := by
  have e : PyData.eqv (tabD f) (tabD g) = (decide (rowL (f 0) = rowL (g 0)) && (decide (rowL (f 1) = rowL (g 1)) && (decide (rowL (f 2) = rowL (g 2)) && (decide (rowL (f 3) = rowL (g 3)) && true)))) := by
    rw [show PyData.eqv (tabD f) (tabD g) = PyData.eqvAll [rowD (f 0), rowD (f 1), rowD (f 2), rowD (f 3)] [rowD (g 0), rowD (g 1), rowD (g 2), rowD (g 3)] by simp [tabD, PyData.eqv]]
    simp only [PyData.eqvAll, eqv_rows]
  rw [e]
  have r : ∀ k, rowL (f k) = rowL (g k) ↔ ∀ p, p < 8 → f k p = g k p := fun k => by unfold rowL; exact map_range_eq
  simp only [Bool.and_eq_true, decide_eq_true_eq, and_true, r]
  constructor
  · rintro ⟨a, b, c, d⟩ k hk
    match k, hk with
    | 0, _ => exact a
    | 1, _ => exact b
    | 2, _ => exact c
    | 3, _ => exact d
  · exact fun h => ⟨h 0 (by decide), h 1 (by decide), h 2 (by decide), h 3 (by decide)⟩
theorem eqv_apart {cs ds : List Cl} (okc : ∀ c ∈ cs, clOk c) (okd : ∀ c ∈ ds, clOk c) : PyData.eqv (tabD (foldT cs)) (tabD (foldT ds)) = decide (apart cs ds = none) := by
  rw [Bool.eq_iff_iff, eqv_tabs, decide_eq_true_eq, part_tabs okc okd]
end KY
set_option Elab.async false
set_option linter.all false
set_option maxRecDepth 100000
set_option maxHeartbeats 4000000
namespace KY
open PySem PySem.Spec PyProof.Rows L2 Evl
local macro_rules | `(tactic| walk_at "ev") => `(tactic| repeat' (first | exact ev_c | exact ev_var rfl | exact rv_I0 | refine' rv_I ?_ | refine' rv_eq ?_ | refine' rv_ne ?_ | refine' ev_op ?_ ?_ ?_ | exact ea_nil | refine' ea_cons ?_ ?_ | refine' et_test ?_ | refine' et_B ?_ | refine' et_not ?_ | refine' ev_notV ?_))

open PySem
/-- a new change -/
def EvCh (K : PySem.W.Frag) (a : Ads) (te : TE) (σ : L2.St) (H : Hp) (cs : List Cl) : Prop := ∀ H1, Ex H H1 → ∀ Q : VK, (∀ p H2, H1 p = none → Ex H1 H2 → ChangeAt K a H2 p cs → Q (.ref p) H2) → te σ H1 Q
def spBits7 : Sp := fun vs H Q _ => ∃ p : Nat, vs = [.int p, .int 7] ∧ p < 8 ∧ ∀ H', Ex H H' → Q (.int (uni p : Nat)) H'
theorem bits7_is : ∀ p : Nat, p < 8 → Builtin.bitOr (Builtin.bitOr (Builtin.bitAnd (p : Int) 4 * 2 ^ (4 : Int).toNat) (Builtin.bitAnd (p : Int) 2 * 2 ^ (2 : Int).toNat)) (Builtin.bitAnd (p : Int) 1) * 7 = (uni p : Nat) := by
  have h : ((List.range 8).all fun (p : Nat) => decide (Builtin.bitOr (Builtin.bitOr (Builtin.bitAnd (p : Int) 4 * 2 ^ (4 : Int).toNat) (Builtin.bitAnd (p : Int) 2 * 2 ^ (2 : Int).toNat)) (Builtin.bitAnd (p : Int) 1) * 7 = (uni p : Nat))) = true := by decide +kernel
  exact fun p hp => of_decide_eq_true (all_nat h p hp)
def spUni (a : Ads) : Sp := fun vs H Q _ => ∃ p : Nat, vs = [.int p] ∧ p < 8 ∧ ∀ q H', H q = none → Ex H H' → ModeAt a H' q (uni p) → Q (.ref q) H'
def spLike (K : PySem.W.Frag) (a : Ads) : Sp := fun vs H Q _ => ∃ (p q : Addr) (cs ds : List Cl), vs = [.ref p, .ref q] ∧ ChangeAt K a H p cs ∧ ChangeAt K a H q ds ∧ (∀ c ∈ cs, clOk c) ∧ (∀ c ∈ ds, clOk c) ∧ ∀ H', Ex H H' → Q (.bl (decide (apart cs ds = none))) H'
def spMul (K : PySem.W.Frag) (a : Ads) : Sp := fun vs H Q _ => ∃ (p q : Addr) (cs ds : List Cl), vs = [.ref p, .ref q] ∧ ChangeAt K a H p cs ∧ ChangeAt K a H q ds ∧ (∀ c ∈ cs, clOk c) ∧ (∀ c ∈ ds, clOk c) ∧ 0 < cs.length ∧ 0 < ds.length ∧ cs.length + ds.length ≤ 8 ∧ ∀ x H', H x = none → Ex H H' → ChangeAt K a H' x (cs ++ ds) → Q (.ref x) H'
/-- None, or a form and a mode -/
def PartV (a : Ads) (H : Hp) (v : V) (r : Option (Str × Nat)) : Prop := match r with
  | none => v = .non
  | some (form, n) => ∃ t m, v = .ref t ∧ H t = some (.tup [.str form, .ref m]) ∧ ModeAt a H m (uni n)
theorem PartV.mono {a : Ads} {H H' : Hp} {v : V} {r : Option (Str × Nat)} (h : PartV a H v r) (e : Ex H H') : PartV a H' v r := by
  match r, h with
  | none, h => exact h
  | some (form, n), h =>
    obtain ⟨t, m, h1, h2, h3⟩ := h
    exact ⟨t, m, h1, e _ _ h2, h3.mono e⟩
def spParting (K : PySem.W.Frag) (a : Ads) : Sp := fun vs H Q _ => ∃ (p q : Addr) (cs ds : List Cl), vs = [.ref p, .ref q] ∧ ChangeAt K a H p cs ∧ ChangeAt K a H q ds ∧ (∀ c ∈ cs, clOk c) ∧ (∀ c ∈ ds, clOk c) ∧ ∀ v H', Ex H H' → PartV a H' v (apart cs ds) → Q v H'
theorem ClsAt.app {K : PySem.W.Frag} {a : Ads} {H : Hp} {ps qs : List Addr} {cs ds : List Cl} (m : ClsAt K a H ps cs) (n : ClsAt K a H qs ds) : ClsAt K a H (ps ++ qs) (cs ++ ds) := by
  refine ⟨by rw [List.length_append, List.length_append, m.1, n.1], fun i p c h1 h2 => ?_⟩
  by_cases hi : i < ps.length
  · rw [List.getElem?_append_left hi] at h1
    rw [List.getElem?_append_left (by rw [← m.1]; exact hi)] at h2
    exact m.2 i p c h1 h2
  · rw [List.getElem?_append_right (by omega)] at h1
    rw [List.getElem?_append_right (by rw [← m.1]; omega)] at h2
    rw [← m.1] at h2
    exact n.2 _ p c h1 h2
section
variable {X : Cx} {K : PySem.W.Frag} {a : Ads} {σ : L2.St} {H H' : Hp} {ta tb te tx tf tm tn tg t1 t2 : TE} {t tk u : TT} {x y z v : V} {r : R2} {D : Ends} {tz tu : TS} {E : XK} {cs ds : List Cl} {p q m : Addr} {form : Str} {n k : Nat} {xs ys : List V}
theorem em_uniform (h : Ev te σ H (.int (n : Nat))) (hn : n < 8) : EvM a (tSMeth a.f_Mode (fun vs H Q E => spUni a (vs ++ []) H Q E) E (tC (.ref a.f_Mode)) (tCons te tNil)) σ H (uni n) := fun H1 e Q q =>
  ⟨rfl, h H1 e _ fun H2 e2 => ⟨n, rfl, hn, fun p H3 hp e3 m => q p H3 (fresh_back e2 hp) (e2.trans e3) m⟩⟩
theorem ev_neMM {n m : Nat} (h1 : EvM a ta σ H n) (h2 : EvM a tb σ H m) : Ev (tOp (rOwnNe a.f_Mode (fun vs H Q E => spMEq a (vs ++ []) H Q E) E) ta tb) σ H (.bl (!decide (n = m))) := fun H1 e Q q =>
  h1 H1 e _ fun p H2 _ e2 m1 => h2 H2 (e.trans e2) _ fun q' H3 _ e3 m2 => by
    obtain ⟨dx, hp⟩ := id (m1.mono e3)
    obtain ⟨dy, hq⟩ := id m2
    refine ⟨p, dx, _, q', dy, _, rfl, rfl, hp, hq, p, q', n, m, rfl, m1.mono e3, m2, fun H4 e4 => ⟨_, rfl, ?_⟩⟩
    have : decide (V.int (n : Nat) = V.int (m : Nat)) = decide (n = m) := decide_eq_decide.mpr ⟨fun z => by injection z with z; omega, fun z => by rw [z]⟩
    rw [this]
    exact q H4 ((e2.trans e3).trans e4)
theorem eu_catT (ha : Ev ta σ H (.ref p)) (hb : Ev tb σ H (.ref q)) (h1 : SqT K H p xs) (h2 : SqT K H q ys) (hx : xs ≠ []) (hy : ys ≠ []) (hl : xs.length + ys.length ≤ 100000) : EvU (tOp (rCatT K) ta tb) σ H (xs ++ ys) := fun H1 e Q k =>
  ha H1 e _ fun H2 e2 => hb H2 (e.trans e2) _ fun H3 e3 => ⟨p, q, xs, ys, rfl, rfl, ex_t ((e.trans e2).trans e3) h1, ex_t ((e.trans e2).trans e3) h2, hx, sz_of hl, fun z => absurd z hy, fun _ c hc => k c _ (fresh_back (e2.trans e3) hc) ((e2.trans e3).trans (Ex.new hc)) upd_same⟩
theorem rv_eqTabs {b c : Addr} (t1 : TabR K H b (foldT cs)) (t2 : TabR K H c (foldT ds)) (okc : ∀ c ∈ cs, clOk c) (okd : ∀ c ∈ ds, clOk c) : RV (rEqD K) (.ref b) (.ref c) H (.bl (decide (apart cs ds = none))) := fun H1 e Q q =>
  ⟨tabD (foldT cs), tabD (foldT ds), dp_tab (t1.mono e), dp_tab (t2.mono e), (tab_show _ fun k => foldT_low cs okc k).2.2.2.2, (tab_show _ fun k => foldT_low ds okd k).2.2.2.2, by rw [eqv_apart okc okd]; exact q H1 (Ex.refl H1)⟩
theorem em_chOV (hf : Ev tf σ H (.ref p)) (hm : Ev tm σ H (.ref m)) (hmm : ModeAt a H m n) (hg : Ev tg σ H (.str form)) (ch : ChangeAt K a H p cs) (ok : ∀ c ∈ cs, clOk c) (fm : form ∈ forms) (hn : n < 512) :
    EvM a (StX.tCallO X a.f_Change (fun vs H Q E => spChCall K a (vs ++ []) H Q E) E tf (tCons tm (tCons tg tNil))) σ H (foldN cs n form) := fun H1 e Q q =>
  hf H1 e _ fun H2 e2 => ⟨p, rfl, hm H2 (e.trans e2) _ fun H3 e3 => hg H3 ((e.trans e2).trans e3) _ fun H4 e4 => by
    have c4 := ch.mono (((e.trans e2).trans e3).trans e4)
    obtain ⟨dx, ct, tt, ps, ho, _⟩ := id c4
    exact ⟨.inr ⟨dx, _, ho⟩, p, .ref m, n, cs, form, rfl, c4, ok, fm, hn, .inr ⟨m, rfl, hmm.mono (((e.trans e2).trans e3).trans e4)⟩, fun q' H5 hq e5 m5 => q q' H5 (fresh_back ((e2.trans e3).trans e4) hq) (((e2.trans e3).trans e4).trans e5) m5⟩⟩
theorem q_asgM {i : Nat} (h : EvM a te σ H n) (k : ∀ m H1, Ex H H1 → ModeAt a H1 m n → tz D (σ.set i (some (.ref m))) H1) : tSeq (tAsg te (gName i)) tz D σ H := h H (Ex.refl H) _ fun m H1 _ e hm => k m H1 e hm
theorem s_asgM {i : Nat} (h : EvM a te σ H n) (k : ∀ m H1, Ex H H1 → ModeAt a H1 m n → D.nx (σ.set i (some (.ref m))) H1) : tAsg te (gName i) D σ H := h H (Ex.refl H) _ fun m H1 _ e hm => k m H1 e hm
theorem q_asgCh {i : Nat} (h : EvCh K a te σ H cs) (k : ∀ c H1, Ex H H1 → ChangeAt K a H1 c cs → tz D (σ.set i (some (.ref c))) H1) : tSeq (tAsg te (gName i)) tz D σ H := h H (Ex.refl H) _ fun c H1 _ e hc => k c H1 e hc
end
section
variable {P : Program} {w : World} {K : PySem.W.Frag} {mg : Str → Option Value} {base : Heap} {a : Ads}
theorem ok_bits7 (T : Txt w K mg a) : FnOk P w K mg base CX0 1 a.f_bits_of a.d_bits_of ["pattern", "weight"] spBits7 := by
  refine T.fn_bits_of.ok sc_bits_of (fun vs H Q E h => ?_) (fun cdv A outer s H vs Q E hr h => ?_)
  · obtain ⟨_, rfl, _⟩ := h
    rfl
  · obtain ⟨n, rfl, hn, k⟩ := h
    refine ⟨_, (pss_one (ps_ret (pe_op op_mul (pe_op op_or (pe_op op_or (pe_op op_shl (pe_op op_and (pv 0) pe_int) pe_int) (pe_op op_shl (pe_op op_and (pv 0) pe_int) pe_int)) (pe_op op_and (pv 0) pe_int)) (pv 1)))), ?_⟩
    refine s_ret (v := .int (uni n : Nat)) (ev_is (by walk_at "ev"; exact ⟨by decide, by decide, (and_lt n hn).1⟩; exact ⟨by decide, by decide, (and_lt n hn).2⟩; exact Or.inr ⟨by omega, by omega⟩) (congrArg V.int (bits7_is n hn))) fun H2 e2 => ?_
    exact k H2 e2
theorem ok_uniform (T : Txt w K mg a) : FnOk P w K mg base CX0 7 a.f_Mode_uniform a.d_Mode_uniform ["pattern"] (spUni a) := by
  have G_Mode_init : FnOk P w K mg base CX0 5 _ _ _ _ := ok_Mode_init T
  have G_bits_of : FnOk P w K mg base CX0 6 _ _ _ _ := (ok_bits7 T).mono (by decide)
  refine T.fn_Mode_uniform.ok sc_Mode_uniform (fun vs H Q E h => ?_) (fun cdv A outer s H vs Q E hr h => ?_)
  · obtain ⟨_, rfl, _⟩ := h
    rfl
  · obtain ⟨p, rfl, hp, k⟩ := h
    have hrm : Room 6 _ := hr
    have hrc : Room 6 _ := hr
    refine ⟨_, (pss_one (ps_ret (pe_make T.mk_Mode G_Mode_init hrm rfl T.mg_Mode (bd_ModeD_initD T) .nil pass0 (pa_cons (pe_call G_bits_of hrc rfl T.mg_bits_of T.fn_bits_of.kp (bd_bits_of T) .nil pass0 (pa_cons (pv 0) (pa_cons pe_int pa_nil))) pa_nil)))), ?_⟩
    exact em_mode (a := a) (n := uni p) (ev_call (vs := [.int p, .int 7]) (by walk_at "ev") fun H1 e1 Q1 q1 E1 => ⟨p, rfl, hp, q1⟩) (uni_is p hp).1 H (Ex.refl H) _ fun q H1 hq e1 m => k q H1 hq e1 m
theorem ok_like (T : Txt w K mg a) : FnOk P w K mg base CX0 4 a.f_Change_like a.d_Change_like ["self", "other"] (spLike K a) := by
  refine T.fn_Change_like.ok sc_Change_like (fun vs H Q E h => ?_) (fun cdv A outer s H vs Q E hr h => ?_)
  · obtain ⟨_, _, _, _, rfl, _⟩ := h
    rfl
  · obtain ⟨p, q, cs, ds, rfl, m1, m2, okc, okd, k⟩ := h
    refine ⟨_, (pss_one (ps_ret (pe_cmpR (op_eqD hr.units) (pe_fld (pv 0) rfl) (pe_fld (pv 1) rfl) (nomark _)))), ?_⟩
    obtain ⟨dx, ct, tt, ps, hp, _, _, tab⟩ := id m1
    obtain ⟨dy, cu, tu, qs, hq, _, _, tab2⟩ := id m2
    exact s_ret (ev_op (ev_fld (ev_var rfl) hp T.c_Change T.n_tables_Change (chf_tables ct tt)) (ev_fld (ev_var rfl) hq T.c_Change T.n_tables_Change (chf_tables cu tu)) (rv_eqTabs (K := K) tab tab2 okc okd)) fun H1 e1 => k H1 e1
theorem ok_mul (T : Txt w K mg a) : FnOk P w K mg base CX0 8 a.f_ChangeD_mulD a.d_ChangeD_mulD ["self", "other"] (spMul K a) := by
  have G_Change_init : FnR P w K mg base CX0 6 _ _ := (ok_Change_init T).mono (by decide)
  refine T.fn_ChangeD_mulD.ok sc_ChangeD_mulD (fun vs H Q E h => ?_) (fun cdv A outer s H vs Q E hr h => ?_)
  · obtain ⟨_, _, _, _, rfl, _⟩ := h
    rfl
  · obtain ⟨p, q, cs, ds, rfl, m1, m2, okc, okd, pc, pd, most, k⟩ := h
    have hrm : Room (6 + 1) _ := hr
    refine ⟨_, (pss_cons (ps_if (pt_not (pt_val (pe_callB call_isi (by rfl) T.b_isinstance PyProof.Rows.boot_isinstance (pa_cons (pv 1) (pa_cons (pe_glob (v := .ref a.f_Change) rfl T.mg_Change rfl) pa_nil))))) (pss_one ps_never) pss_nil)
    (pss_cons (ps_set (i := 2) sc_ChangeD_mulD.nd rfl (Or.inl rfl) (pe_op op_catT (pe_fld (pv 0) rfl) (pe_fld (pv 1) rfl)))
    (pss_one (ps_ret (pe_makeGS T.mk_Change G_Change_init hrm rfl T.mg_Change pass0 (pv 2)))))), ?_⟩
    have m2' := m2
    obtain ⟨dx, ct, tt, ps, hp, seq, cls, tab⟩ := m1
    obtain ⟨dy, cu, tu, qs, hq, seq2, cls2, tab2⟩ := m2
    refine q_when (b := false) (et_not (a := true) (et_B (ev_isi (ea_cons (ev_var rfl) (ea_cons ev_c ea_nil)) (.own _) (fun H' e' => tyx_change T (m2'.mono e')) T.is_Change))) (fun z => nomatch z) fun _ H1 e1 => ?_
    have lp : ps.map V.ref ≠ [] := fun z => by
      have := congrArg List.length z
      rw [List.length_map, cls.1, List.length_nil] at this
      omega
    have lq : qs.map V.ref ≠ [] := fun z => by
      have := congrArg List.length z
      rw [List.length_map, cls2.1, List.length_nil] at this
      omega
    refine q_asgU (eu_catT (K := K) (ev_fld (ev_var rfl) (e1 _ _ hp) T.c_Change T.n_clauses_Change (chf_clauses ct tt)) (ev_fld (ev_var rfl) (e1 _ _ hq) T.c_Change T.n_clauses_Change (chf_clauses cu tu)) (ex_t e1 seq) (ex_t e1 seq2) lp lq (by rw [List.length_map, List.length_map, cls.1, cls2.1]; omega)) fun bt H2 hb e2 h2 => ?_
    have e := e1.trans e2
    have cls3 : ClsAt K a H2 (ps ++ qs) (cs ++ ds) := (cls.mono e).app (cls2.mono e)
    rw [← List.map_append] at h2
    refine ⟨_, rfl, bt, (ps ++ qs).map V.ref, rfl, .inl (st_of h2), fun x dx' hx hdx hne => ⟨.ref x, (ps ++ qs).map V.ref, rfl, by rw [List.length_map, cls3.1, List.length_append]; exact most, fun ct' hct => ?_⟩⟩
    have eN : Ex H2 (upd (upd (upd H2 dx' (.own x)) x (.ins a.f_Change dx' [])) ct' (.tup ((ps ++ qs).map V.ref))) := fun b o hb => by
      have bx := ne_of_none hb hx
      have bd := ne_of_none hb hdx
      have bc : b ≠ ct' := fun z => by
        rw [z] at bx bd hb
        rw [upd_ne bx, upd_ne bd, hb] at hct
        cases hct
      rw [upd_ne bc, upd_ne bx, upd_ne bd]
      exact hb
    have xct : x ≠ ct' := fun z => by rw [← z, upd_same] at hct; cases hct
    exact ⟨x, dx', ct', ps ++ qs, cs ++ ds, rfl, upd_same, cls3.mono eN, fun c m => (List.mem_append.mp m).elim (okc c) (okd c), by rw [List.length_append]; omega, by rw [List.length_append]; exact most, by rw [upd_ne xct, upd_same], fun H9 b9 ch => ⟨rfl, k x H9 (fresh_back e hx) (e.trans fun b o hb => b9 b o (eN b o hb) (ne_of_none hb hx)) ch⟩⟩
end
end KY
set_option Elab.async false
set_option linter.all false
set_option maxRecDepth 100000
set_option maxHeartbeats 4000000
namespace KY
open PySem PySem.Spec PyProof.Rows L2 Evl
local macro_rules | `(tactic| walk_at "ev") => `(tactic| repeat' (first | exact ev_c | exact ev_var rfl | exact rv_I0 | refine' rv_I ?_ | refine' rv_eq ?_ | refine' rv_ne ?_ | refine' ev_op ?_ ?_ ?_ | exact ea_nil | refine' ea_cons ?_ ?_ | refine' et_test ?_ | refine' et_B ?_ | refine' et_not ?_ | refine' ev_notV ?_))

open PySem
theorem pat_at {j : Nat} {x : V} (h : (([0, 1, 2, 3, 4, 5, 6, 7] : List Int).map V.int)[j]? = some x) : j < 8 ∧ x = .int (j : Nat) := by
  match j, h with
  | 0, h => cases h; exact ⟨by decide, rfl⟩
  | 1, h => cases h; exact ⟨by decide, rfl⟩
  | 2, h => cases h; exact ⟨by decide, rfl⟩
  | 3, h => cases h; exact ⟨by decide, rfl⟩
  | 4, h => cases h; exact ⟨by decide, rfl⟩
  | 5, h => cases h; exact ⟨by decide, rfl⟩
  | 6, h => cases h; exact ⟨by decide, rfl⟩
  | 7, h => cases h; exact ⟨by decide, rfl⟩
  | n + 8, h => simp at h
theorem form_num {k : Nat} {x : V} (h : ([.str "file", .str "folder"] : List V)[k]? = some x) : (k = 0 ∧ x = .str "file") ∨ (k = 1 ∧ x = .str "folder") := by
  match k, h with
  | 0, h => cases h; exact .inl ⟨rfl, rfl⟩
  | 1, h => cases h; exact .inr ⟨rfl, rfl⟩
  | n + 2, h => simp at h
def formN (k : Nat) : Str := if k = 0 then "file" else "folder"
theorem form_N {k : Nat} {x : V} (h : ([.str "file", .str "folder"] : List V)[k]? = some x) : x = .str (formN k) ∧ formN k ∈ forms ∧ k < 2 := by
  rcases form_num h with ⟨rfl, rfl⟩ | ⟨rfl, rfl⟩
  · exact ⟨rfl, by decide +kernel, by decide⟩
  · exact ⟨rfl, by decide +kernel, by decide⟩
/-- forms ahead of the k-th one do not part -/
def Upto (cs ds : List Cl) (k : Nat) : Prop := ∀ i, i < k → firstP cs ds (formN i) = none
theorem Upto.zero {cs ds : List Cl} : Upto cs ds 0 := fun i h => absurd h (Nat.not_lt_zero _)
theorem Upto.step {cs ds : List Cl} {k : Nat} (h : Upto cs ds k) (n : firstP cs ds (formN k) = none) : Upto cs ds (k + 1) := fun i hi => by
  by_cases e : i = k
  · rw [e]; exact n
  · exact h i (by omega)
theorem Upto.none {cs ds : List Cl} (h : Upto cs ds 2) : apart cs ds = none := by
  have h0 : firstP cs ds "file" = Option.none := h 0 (by decide)
  have h1 : firstP cs ds "folder" = Option.none := h 1 (by decide)
  unfold apart
  rw [h0, h1]
  rfl
theorem Upto.some {cs ds : List Cl} {k p : Nat} (hk : k < 2) (h : Upto cs ds k) (n : firstP cs ds (formN k) = some p) : apart cs ds = some (formN k, p) := by
  unfold apart
  match k, hk with
  | 0, _ =>
    have n : firstP cs ds "file" = Option.some p := n
    rw [n]
    rfl
  | 1, _ =>
    have h0 : firstP cs ds "file" = Option.none := h 0 (by decide)
    have n : firstP cs ds "folder" = Option.some p := n
    rw [h0, n]
    rfl
theorem first_at {cs ds : List Cl} {form : Str} {p : Nat} (hp : p < 8) (h : differs cs ds form p = true) (no : ∀ i, i < p → differs cs ds form i = false) : firstP cs ds form = some p := by
  unfold firstP
  rw [List.find?_range_eq_some]
  exact ⟨h, List.mem_range.mpr hp, fun j hj => by rw [no j hj]; rfl⟩
theorem first_no {cs ds : List Cl} {form : Str} (no : ∀ i, i < 8 → differs cs ds form i = false) : firstP cs ds form = none := by
  unfold firstP
  refine List.find?_eq_none.mpr fun p hp => ?_
  rw [no p (List.mem_range.mp hp)]
  simp
section
variable {P : Program} {w : World} {K : PySem.W.Frag} {mg : Str → Option Value} {base : Heap} {a : Ads}
theorem ok_parting (T : Txt w K mg a) : FnOk P w K mg base CX0 8 a.f_parting a.d_parting ["one", "other"] (spParting K a) := by
  have G_ChangeD_callD : FnOk P w K mg base CX0 7 _ _ _ _ := ok_Change_call T
  have G_Mode_uniform : FnOk P w K mg base CX0 7 _ _ _ _ := ok_uniform T
  have G_Mode_eq : FnOk P w K mg base CX0 6 _ _ _ _ := (ok_Mode_eq T).mono (by decide)
  refine T.fn_parting.ok sc_parting (fun vs H Q E h => ?_) (fun cdv A outer s H vs Q E hr h => ?_)
  · obtain ⟨_, _, _, _, rfl, _⟩ := h
    rfl
  · obtain ⟨p, q, cs, ds, rfl, m1, m2, okc, okd, k⟩ := h
    have hrc : Room 7 _ := hr
    have hre : Room (6 + 1) _ := hr
    refine ⟨_, (pss_cons (ps_for PassesOwn.never rfl (pi_tupE (K := K) (pe_glob (v := .ref a.k_FORMS) rfl T.mg_FORMS rfl)) (pg_name (i := 2) sc_parting.nd rfl (Or.inl rfl)) (pss_one (ps_for PassesOwn.never rfl (pi_tupE (K := K) (pe_glob (v := .ref a.k_PATTERNS) rfl T.mg_PATTERNS rfl)) (pg_name (i := 3) sc_parting.nd rfl (Or.inl rfl)) (pss_cons (ps_set (i := 4) sc_parting.nd rfl (Or.inl rfl) (pe_smeth (pe_glob (v := .ref a.f_Mode) rfl T.mg_Mode rfl) T.r_Mode T.m_Mode_uniform (G_Mode_uniform.raw (bd_Mode_uniform T) .nil) hrc pass0 (pa_cons (pv 3) pa_nil)))
    (pss_one (ps_if (pt_cmpR (op_ownNe T.ne_Mode T.im_Mode T.m_ModeD_eqD.at_ T.m_ModeD_eqD.fn (G_Mode_eq.raw (bd_ModeD_eqD T) .nil) hre pass0) (StX.pe_callO (pv 0) T.o_Change (G_ChangeD_callD.raw (bd_ChangeD_callD T) .nil) hrc pass0 (pa_cons (pv 4) (pa_cons (pv 2) pa_nil))) (StX.pe_callO (pv 1) T.o_Change (G_ChangeD_callD.raw (bd_ChangeD_callD T) .nil) hrc pass0 (pa_cons (pv 4) (pa_cons (pv 2) pa_nil))) (nomark _)) (pss_one (ps_ret (pe_tup (pa_cons (pv 2) (pa_cons (pv 4) pa_nil))))) pss_nil))))))
    (pss_one (ps_ret pe_non))), ?_⟩
    refine q_forT (K := K) (xs := [.str "file", .str "folder"]) ev_c (T.t_FORMS _) (fun i σ' H' => ∃ o2 o3 o4, σ' = [some (.ref p), some (.ref q), o2, o3, o4] ∧ Ex H H' ∧ Upto cs ds i) (fun H1 e1 => ⟨_, _, _, rfl, e1, .zero⟩) (fun i σ' H' _ _ => T.t_FORMS _) (fun i x σ' H1 hx inv => ?_) (fun σ' H1 inv => ?_)
    · obtain ⟨o2, o3, o4, rfl, e1, up⟩ := inv
      obtain ⟨rfl, hf, hi⟩ := form_N hx
      refine s_forT (K := K) (xs := ([0, 1, 2, 3, 4, 5, 6, 7] : List Int).map V.int) ev_c (T.t_PATTERNS _) (fun j σ' H' => ∃ o3 o4, σ' = [some (.ref p), some (.ref q), some (.str (formN i)), o3, o4] ∧ Ex H H' ∧ ∀ b, b < j → differs cs ds (formN i) b = false) (fun H2 e2 => ⟨_, _, rfl, e1.trans e2, fun b hb => absurd hb (Nat.not_lt_zero _)⟩) (fun j σ' H' _ _ => T.t_PATTERNS _) (fun j y σ' H2 hy inv => ?_) (fun σ' H2 inv => ?_)
      · obtain ⟨o3, o4, rfl, e2, no⟩ := inv
        obtain ⟨hj, rfl⟩ := pat_at hy
        refine q_asgM (a := a) (n := uni j) (em_uniform (ev_var rfl) hj) fun m H3 e3 hm => ?_
        have e23 := e2.trans e3
        have hu := (uni_is j hj).1
        refine s_when (b := differs cs ds (formN i) j) (et_is (et_test (ev_neMM (a := a) (em_chOV (ev_var rfl) (ev_var rfl) hm (ev_var rfl) (m1.mono e23) okc hf hu) (em_chOV (ev_var rfl) (ev_var rfl) hm (ev_var rfl) (m2.mono e23) okd hf hu))) (by unfold differs; rw [← decide_not])) (fun hb H4 e4 => ?_) (fun hb H4 e4 => ?_)
        · refine s_retU (xs := [.str (formN i), .ref m]) (eu_tup (ea_cons (ev_var rfl) (ea_cons (ev_var rfl) ea_nil)) (by show 2 ≤ 100000; decide)) fun t H5 ht e5 h5 => k (.ref t) H5 ((e23.trans e4).trans e5) ?_
          rw [up.some hi (first_at hj hb no)]
          exact ⟨t, m, rfl, h5, (hm.mono e4).mono e5⟩
        · refine ⟨_, _, rfl, e23.trans e4, fun b hb2 => ?_⟩
          by_cases e : b = j
          · rw [e]; exact hb
          · exact no b (by omega)
      · obtain ⟨o3, o4, rfl, e2, no⟩ := inv
        exact ⟨_, _, _, rfl, e2, up.step (first_no no)⟩
    · obtain ⟨o2, o3, o4, rfl, e1, up⟩ := inv
      refine s_ret (v := .non) ev_c fun H2 e2 => k .non H2 (e1.trans e2) ?_
      rw [Upto.none up]
      exact rfl
end
end KY
set_option Elab.async false
set_option linter.all false
set_option maxRecDepth 100000
set_option maxHeartbeats 4000000
namespace KY
open PySem PySem.Spec PyProof.Rows L2 Evl
local macro_rules | `(tactic| walk_at "ev") => `(tactic| repeat' (first | exact ev_c | exact ev_var rfl | exact rv_I0 | refine' rv_I ?_ | refine' rv_eq ?_ | refine' rv_ne ?_ | refine' ev_op ?_ ?_ ?_ | exact ea_nil | refine' ea_cons ?_ ?_ | refine' et_test ?_ | refine' et_B ?_ | refine' et_not ?_ | refine' ev_notV ?_))

open PySem
theorem ix_listE {X : Cx} {K : PySem.W.Frag} (h : X.K = K) : IxR X (rIxL K) := by
  subst h
  exact ix_list
theorem shaped_nums (a : List Nat) : SeqAt.shaped (.list (a.map fun (n : Nat) => .int (n : Int))) = true := by
  have lay : ∀ a : List Nat, PyData.canLayAll0 (a.map fun (n : Nat) => PyData.int (n : Int)) = true ∧ PyData.depthAll (a.map fun (n : Nat) => PyData.int (n : Int)) = 0 := by
    intro a
    induction a with
    | nil => exact ⟨rfl, rfl⟩
    | cons x a ih => simp [PyData.canLayAll0, PyData.canLay0, PyData.depthAll, PyData.depth, ih.1, ih.2]
  obtain ⟨h3, h4⟩ := lay a
  refine Bool.and_eq_true_iff.mpr ⟨by simp [PyData.canLay0, h3], decide_eq_true ?_⟩
  simp only [PyData.depth, h4]
  omega
theorem rv_neNums {K : PySem.W.Frag} {H : Hp} {b c : Addr} {xs ys : List Nat} (h1 : H b = some (.lst (numV xs))) (h2 : H c = some (.lst (numV ys))) : RV (rNeD K) (.ref b) (.ref c) H (.bl (!decide (xs = ys))) := fun H1 e Q q =>
  ⟨.list (xs.map fun (n : Nat) => .int (n : Int)), .list (ys.map fun (n : Nat) => .int (n : Int)), .lst (sq_of (e _ _ h1)) (dp_nums xs), .lst (sq_of (e _ _ h2)) (dp_nums ys), shaped_nums xs, shaped_nums ys, by
    rw [show PyData.eqv (.list (xs.map fun (n : Nat) => PyData.int (n : Int))) (.list (ys.map fun (n : Nat) => PyData.int (n : Int))) = PyData.eqvAll (xs.map fun (n : Nat) => PyData.int (n : Int)) (ys.map fun (n : Nat) => PyData.int (n : Int)) by simp [PyData.eqv], eqv_nats]
    exact q H1 (Ex.refl H1)⟩
theorem uni_is3 : ∀ p : Nat, p < 8 → 448 * ((p : Int) / 2 ^ (2 : Int).toNat) + 56 * Builtin.bitAnd ((p : Int) / 2 ^ (1 : Int).toNat) 1 + 7 * Builtin.bitAnd (p : Int) 1 = (uni p : Nat) := by
  have h : ((List.range 8).all fun (p : Nat) => decide (448 * ((p : Int) / 2 ^ (2 : Int).toNat) + 56 * Builtin.bitAnd ((p : Int) / 2 ^ (1 : Int).toNat) 1 + 7 * Builtin.bitAnd (p : Int) 1 = (uni p : Nat))) = true := by decide +kernel
  exact fun p hp => of_decide_eq_true (all_nat h p hp)
def allN (cs : List Cl) (form : Str) : List Nat := (List.range 512).map fun n => foldN cs n form
theorem allN_at {cs : List Cl} {form : Str} {n : Nat} (hn : n < 512) : (numV (allN cs form))[n]? = some (V.int (foldN cs n form : Nat)) := by
  unfold numV allN
  rw [List.getElem?_map, List.getElem?_map, List.getElem?_range hn]
  rfl
theorem allN_eq {cs ds : List Cl} {form : Str} (okc : ∀ c ∈ cs, clOk c) (okd : ∀ c ∈ ds, clOk c) (hf : form ∈ forms) : allN cs form = allN ds form ↔ firstP cs ds form = none := by
  constructor
  · intro h
    refine none_of fun p hp => ?_
    have u := (uni_is p hp).1
    have e := congrArg (fun l => l[uni p]?) h
    unfold allN at e
    simp only [List.getElem?_map, List.getElem?_range u, Option.map_some] at e
    exact Option.some.inj e
  · intro h
    unfold allN
    exact List.map_congr_left fun n hn => all_same okc okd hf h (List.mem_range.mp hn)
/-- None, or a form and a number -/
def DueV (H : Hp) (v : V) (r : Option (Str × Nat)) : Prop := match r with
  | none => v = .non
  | some (form, n) => ∃ t, v = .ref t ∧ H t = some (.tup [.str form, .int (uni n : Nat)])
theorem DueV.mono {H H' : Hp} {v : V} {r : Option (Str × Nat)} (h : DueV H v r) (e : Ex H H') : DueV H' v r := by
  match r, h with
  | none, h => exact h
  | some (form, n), h =>
    obtain ⟨t, h1, h2⟩ := h
    exact ⟨t, h1, e _ _ h2⟩
def spLParting : Sp := fun vs H Q _ => ∃ (l m : Addr) (cs ds : List Cl), vs = [.ref l, .ref m] ∧ ToldAt H l cs ∧ ToldAt H m ds ∧ (∀ c ∈ cs, clOk c) ∧ (∀ c ∈ ds, clOk c) ∧ ∀ v H', Ex H H' → DueV H' v (apart cs ds) → Q v H'
section
variable {P : Program} {w : World} {K : PySem.W.Frag} {mg : Str → Option Value} {base : Heap} {a : Ads}
theorem ok_lparting (T : Txt w K mg a) : FnOk P w K mg base CX0 5 a.f__law_parting a.d__law_parting ["_law_one_so", "_law_other_so"] spLParting := by
  have G__law_change_done : FnOk P w K mg base CX0 3 _ _ _ _ := ok_change_done T
  refine T.fn__law_parting.ok sc__law_parting (fun vs H Q E h => ?_) (fun cdv A outer s H vs Q E hr h => ?_)
  · obtain ⟨_, _, _, _, rfl, _⟩ := h
    rfl
  · obtain ⟨l, m, cs, ds, rfl, t1, t2, okc, okd, k⟩ := h
    have hrc : Room 3 _ := hr.mono (by decide)
    refine ⟨_, (pss_cons (ps_for PassesOwn.never rfl (pi_tup (pe_tup (pa_cons pe_str (pa_cons pe_str pa_nil)))) (pg_name (i := 2) sc__law_parting.nd rfl (Or.inr rfl)) (pss_cons (ps_set (i := 3) sc__law_parting.nd rfl (Or.inr rfl) (pe_lc (own := [("_law_number", 7)]) (g := gName 7) rfl sc__law_parting.nd (pi_range1 rfl T.b_range (pa_cons pe_int pa_nil)) (blkOk_by (own := [("_law_number", 7)]) (N := n__law_parting) (sc := defScope s__law_parting) (by decide +kernel)) (fun _ _ _ _ _ => (pg_name (i := 7) sc__law_parting.nd rfl (Or.inl rfl))) (fun _ _ _ _ _ => pts_nil) (fun _ _ _ _ _ => (pe_call G__law_change_done hrc rfl T.mg__law_change_done T.fn__law_change_done.kp (bd__law_change_done T) .nil pass0 (pa_cons (pv 0) (pa_cons (pv 7) (pa_cons (pv 2) pa_nil)))))))
    (pss_cons (ps_set (i := 4) sc__law_parting.nd rfl (Or.inr rfl) (pe_lc (own := [("_law_number", 7)]) (g := gName 7) rfl sc__law_parting.nd (pi_range1 rfl T.b_range (pa_cons pe_int pa_nil)) (blkOk_by (own := [("_law_number", 7)]) (N := n__law_parting) (sc := defScope s__law_parting) (by decide +kernel)) (fun _ _ _ _ _ => (pg_name (i := 7) sc__law_parting.nd rfl (Or.inl rfl))) (fun _ _ _ _ _ => pts_nil) (fun _ _ _ _ _ => (pe_call G__law_change_done hrc rfl T.mg__law_change_done T.fn__law_change_done.kp (bd__law_change_done T) .nil pass0 (pa_cons (pv 1) (pa_cons (pv 7) (pa_cons (pv 2) pa_nil)))))))
    (pss_cons (ps_setLc (i := 5) (own := [("_law_p", 8)]) (g := gName 8) rfl sc__law_parting.nd rfl rfl (sw_true rfl rfl rfl (by decide +kernel)) (pi_range1 rfl T.b_range (pa_cons pe_int pa_nil)) (blkOk_by (own := [("_law_p", 8)]) (N := n__law_parting) (sc := defScope s__law_parting) (by decide +kernel)) (fun _ _ _ _ _ => (pg_name (i := 8) sc__law_parting.nd rfl (Or.inl rfl))) (fun _ _ _ _ _ => pts_nil) (fun _ _ _ _ _ => (pe_op op_add (pe_op op_add (pe_op op_mul pe_int (pe_op op_shr (pv 8) pe_int)) (pe_op op_mul pe_int (pe_op op_and (pe_op op_shr (pv 8) pe_int) pe_int))) (pe_op op_mul pe_int (pe_op op_and (pv 8) pe_int)))))
    (pss_cons (ps_setLc (i := 6) (own := [("_law_number", 7)]) (g := gName 7) rfl sc__law_parting.nd rfl rfl (sw_true rfl rfl rfl (by decide +kernel)) (pi_list (pv 5)) (blkOk_by (own := [("_law_number", 7)]) (N := n__law_parting) (sc := defScope s__law_parting) (by decide +kernel)) (fun _ _ _ _ _ => (pg_name (i := 7) sc__law_parting.nd rfl (Or.inl rfl))) (fun _ _ _ _ _ => (pts_one (pt_cmpR op_ne (pe_ix (ix_listE (K := K) rfl) (pv 3) (pv 7) (fun _ _ => rfl)) (pe_ix (ix_listE (K := K) rfl) (pv 4) (pv 7) (fun _ _ => rfl)) (nomark _)))) (fun _ _ _ _ _ => (pv 7)))
    (pss_one (ps_if (pt_cmpR (op_neD hr.units) (pv 3) (pv 4) (nomark _)) (pss_one (ps_ret (pe_tup (pa_cons (pv 2) (pa_cons (pe_ix ix_list (pv 6) pe_int (fun _ _ => rfl)) pa_nil))))) pss_nil)))))))
    (pss_one (ps_ret pe_non))), ?_⟩
    refine q_forNT (K := K) (xs := [.str "file", .str "folder"]) (eu_tup (by walk_at "ev") (by decide)) (fun pt i σ' H' => ∃ o2 o3 o4 o5 o6 o7 o8, σ' = [some (.ref l), some (.ref m), o2, o3, o4, o5, o6, o7, o8] ∧ H' pt = some (.tup [.str "file", .str "folder"]) ∧ Ex H H' ∧ Upto cs ds i) (fun pt H1 _ e1 h1 => ⟨_, _, _, _, _, _, _, rfl, h1, e1, .zero⟩) (fun pt i σ' H' _ q => by
      obtain ⟨_, _, _, _, _, _, _, _, h1, _⟩ := q
      exact st_of h1) (fun pt i x σ' H1 hx inv => ?_) (fun pt σ' H1 inv => ?_)
    · obtain ⟨o2, o3, o4, o5, o6, o7, o8, rfl, h1, e1, up⟩ := inv
      obtain ⟨rfl, hf, hi⟩ := form_N hx
      have done_ : ∀ (b : Addr) (bs : List Cl) (i8 : Nat) (te : TE) (tf : TE) (σ : L2.St) (H2 : Hp) (tn : TE) (E : XK), ToldAt H2 b bs → (∀ c ∈ bs, clOk c) → i8 < 512 → Ev te σ H2 (.ref b) → Ev tn σ H2 (.int (i8 : Nat)) → Ev tf σ H2 (.str (formN i)) → Ev (tCall (spChD K) [] E (tCons te (tCons tn (tCons tf tNil)))) σ H2 (.int (foldN bs i8 (formN i) : Nat)) := fun b bs i8 te tf σ H2 tn E tb ok hn he hn2 hf2 => ev_call (vs := [.ref b, .int (i8 : Nat), .str (formN i)]) (ea_cons he (ea_cons hn2 (ea_cons hf2 ea_nil))) fun H3 e3 Q3 q3 E3 => ⟨b, bs, i8, formN i, rfl, tb.mono e3, ok, hn, q3⟩
      refine q_asgL (xs := numV (allN cs (formN i))) (el_is (el_lcR1 (n := 512) (fun _ => true) (fun n => V.int (foldN cs n (formN i) : Nat)) (ea_cons ev_c ea_nil) (by decide) (fun _ => rfl) (fun _ _ _ _ => et_yes) (fun n H2 e2 hn _ => done_ l cs n _ _ _ _ _ _ ((t1.mono e1).mono e2) okc (by omega) (ev_var rfl) (ev_var rfl) (ev_var rfl))) (by rw [given_all]; unfold numV allN; rw [List.map_map]; rfl)) fun ad H2 _ e2 h2 => ?_
      refine q_asgL (xs := numV (allN ds (formN i))) (el_is (el_lcR1 (n := 512) (fun _ => true) (fun n => V.int (foldN ds n (formN i) : Nat)) (ea_cons ev_c ea_nil) (by decide) (fun _ => rfl) (fun _ _ _ _ => et_yes) (fun n H3 e3 hn _ => done_ m ds n _ _ _ _ _ _ ((t2.mono (e1.trans e2)).mono e3) okd (by omega) (ev_var rfl) (ev_var rfl) (ev_var rfl))) (by rw [given_all]; unfold numV allN; rw [List.map_map]; rfl)) fun bd H3 _ e3 h3 => ?_
      refine q_asgL (xs := numV ((List.range 8).map uni)) (el_is (el_lcR1 (n := 8) (fun _ => true) (fun n => V.int (uni n : Nat)) (ea_cons ev_c ea_nil) (by decide) (fun _ => rfl) (fun _ _ _ _ => et_yes) (fun n H4 e4 hn _ => ?_)) (by rw [given_all]; unfold numV; rw [List.map_map]; rfl)) fun fl H4 _ e4 h4 => ?_
      · have hn8 : n < 8 := by omega
        exact ev_is (ev_op (ev_op (ev_op ev_c (ev_op (ev_var rfl) ev_c (rv_I (by decide))) (rv_I (.inl ⟨by decide, by decide⟩))) (ev_op ev_c (ev_op (ev_op (ev_var rfl) ev_c (rv_I (by decide))) ev_c rv_I0) (rv_I (.inl ⟨by decide, by decide⟩))) rv_I0) (ev_op ev_c (ev_op (ev_var rfl) ev_c rv_I0) (rv_I (.inl ⟨by decide, by decide⟩))) rv_I0) (congrArg V.int (uni_is3 n hn8))
      have at8 : ∀ (n : Nat) (x : V), (numV ((List.range 8).map uni))[n]? = some x → n < 8 ∧ x = .int (uni n : Nat) := fun n x hx => by
        have hn : n < 8 := by
          have := (List.getElem?_eq_some_iff.mp hx).1
          unfold numV at this
          simpa using this
        refine ⟨hn, ?_⟩
        unfold numV at hx
        rw [List.getElem?_map, List.getElem?_map, List.getElem?_range hn] at hx
        exact (Option.some.inj hx).symm
      have e34 := e3.trans e4
      refine q_asgL (xs := given 8 (differs cs ds (formN i)) fun n => V.int (uni n : Nat)) (el_is (el_lcL (K := K) (xs := numV ((List.range 8).map uni)) (differs cs ds (formN i)) (fun n => V.int (uni n : Nat)) (ev_var rfl) (sq_of h4) (by unfold numV; simp) (fun _ => rfl) (fun n x H5 e5 hx => ?_) (fun n x H5 e5 hx _ => ?_)) (by unfold numV; rw [List.length_map, List.length_map, List.length_range])) fun fa H5 _ e5 h5 => ?_
      · obtain ⟨hn, rfl⟩ := at8 n x hx
        have u := (uni_is n hn).1
        refine et_is (et_test (ev_op (ev_op (ev_var rfl) (ev_var rfl) (rv_ixL (K := K) (sq_of (e5 _ _ (e34 _ _ h2))) (atI_nat (allN_at u)))) (ev_op (ev_var rfl) (ev_var rfl) (rv_ixL (K := K) (sq_of (e5 _ _ (e4 _ _ h3))) (atI_nat (allN_at u)))) (rv_ne rfl))) ?_
        unfold differs
        rw [decide_not]
        congr 1
        exact decide_eq_decide.mpr ⟨fun z => by injection z with z; omega, fun z => by rw [z]⟩
      · obtain ⟨hn, rfl⟩ := at8 n x hx
        exact ev_var rfl
      have e15 : Ex H H5 := (((e1.trans e2).trans e34).trans e5)
      refine s_when (b := !decide (allN cs (formN i) = allN ds (formN i))) (et_test (ev_op (ev_var rfl) (ev_var rfl) (rv_neNums (K := K) (e5 _ _ (e34 _ _ h2)) (e5 _ _ (e4 _ _ h3))))) (fun hb H6 e6 => ?_) (fun hb H6 e6 => ?_)
      · cases q : firstP cs ds (formN i) with
        | none => rw [decide_eq_true ((allN_eq okc okd hf).mpr q)] at hb; cases hb
        | some p =>
          have hat : atI (given 8 (differs cs ds (formN i)) fun n => V.int (uni n : Nat)) ((0 : Nat) : Int) = some (.int (uni p : Nat)) := atI_nat (by
            unfold given
            rw [List.getElem?_map, ← List.head?_eq_getElem?, List.head?_filter]
            unfold firstP at q
            rw [q]
            rfl)
          refine s_retU (xs := [.str (formN i), .int (uni p : Nat)]) (eu_tup (ea_cons (ev_var rfl) (ea_cons (ev_op (ev_var rfl) ev_c (rv_ixL (K := K) (sq_of (e6 _ _ h5)) hat)) ea_nil)) (by show 2 ≤ 100000; decide)) fun t H7 ht e7 h7 => k (.ref t) H7 ((e15.trans e6).trans e7) ?_
          rw [up.some hi q]
          exact ⟨t, rfl, h7⟩
      · have q : firstP cs ds (formN i) = none := (allN_eq okc okd hf).mp (of_decide_eq_true (by simpa using hb))
        exact ⟨_, _, _, _, _, _, _, rfl, e6 _ _ (e5 _ _ (e34 _ _ (e2 _ _ h1))), e15.trans e6, up.step q⟩
    · obtain ⟨o2, o3, o4, o5, o6, o7, o8, rfl, h1, e1, up⟩ := inv
      refine s_ret (v := .non) ev_c fun H2 e2 => k .non H2 (e1.trans e2) ?_
      rw [Upto.none up]
      exact rfl
end
end KY
set_option Elab.async false
set_option linter.all false
set_option maxRecDepth 100000
set_option maxHeartbeats 4000000
namespace KY
open PySem PySem.Spec PyProof.Rows L2 Evl
local macro_rules | `(tactic| walk_at "ev") => `(tactic| repeat' (first | exact ev_c | exact ev_var rfl | exact rv_I0 | refine' rv_I ?_ | refine' rv_eq ?_ | refine' rv_ne ?_ | refine' ev_op ?_ ?_ ?_ | exact ea_nil | refine' ea_cons ?_ ?_ | refine' et_test ?_ | refine' et_B ?_ | refine' et_not ?_ | refine' ev_notV ?_))

open PySem
/-! ### lists of told clauses, by what stands in them -/
inductive TV (H : Hp) : List V → List Cl → Prop
  | nil : TV H [] []
  | cons {t : Addr} {c : Cl} {xs : List V} {cs : List Cl} : H t = some (.tup [.str c.1, .str c.2.1, .str c.2.2]) → TV H xs cs → TV H (.ref t :: xs) (c :: cs)
theorem TV.len {H : Hp} {xs : List V} {cs : List Cl} (h : TV H xs cs) : xs.length = cs.length := by
  induction h with
  | nil => rfl
  | cons _ _ ih => rw [List.length_cons, List.length_cons, ih]
theorem TV.mono {H H' : Hp} {xs : List V} {cs : List Cl} (h : TV H xs cs) (e : Ex H H') : TV H' xs cs := by
  induction h with
  | nil => exact .nil
  | cons h1 _ ih => exact .cons (e _ _ h1) ih
theorem TV.grow {H H' : Hp} {p : Addr} {zs : List V} {xs : List V} {cs : List Cl} (h : TV H xs cs) (e : ExB p H H') (hp : H p = some (.lst zs)) : TV H' xs cs := by
  induction h with
  | nil => exact .nil
  | cons h1 _ ih => exact .cons (e _ _ h1 fun z => by rw [z, hp] at h1; cases h1) ih
theorem TV.app {H : Hp} {xs ys : List V} {cs ds : List Cl} (h : TV H xs cs) (g : TV H ys ds) : TV H (xs ++ ys) (cs ++ ds) := by
  induction h with
  | nil => exact g
  | cons h1 _ ih => exact .cons h1 ih
theorem TV.take {H : Hp} {xs : List V} {cs : List Cl} (h : TV H xs cs) : ∀ k, TV H (xs.take k) (cs.take k) := by
  induction h with
  | nil => intro k; rw [List.take_nil, List.take_nil]; exact .nil
  | cons h1 _ ih => intro k; cases k with
    | zero => exact .nil
    | succ k => exact .cons h1 (ih k)
theorem TV.drop {H : Hp} {xs : List V} {cs : List Cl} (h : TV H xs cs) : ∀ k, TV H (xs.drop k) (cs.drop k) := by
  induction h with
  | nil => intro k; rw [List.drop_nil, List.drop_nil]; exact .nil
  | cons h1 t ih => intro k; cases k with
    | zero => exact .cons h1 t
    | succ k => exact ih k
theorem TV.at_ {H : Hp} {xs : List V} {cs : List Cl} (h : TV H xs cs) : ∀ (k : Nat) (c : Cl), cs[k]? = some c → ∃ t, xs[k]? = some (.ref t) ∧ H t = some (.tup [.str c.1, .str c.2.1, .str c.2.2]) := by
  induction h with
  | nil => intro k c h; cases h
  | cons h1 _ ih => intro k c h; cases k with
    | zero => cases h; exact ⟨_, rfl, h1⟩
    | succ k => exact ih k c h
theorem TV.ads {H : Hp} {xs : List V} {cs : List Cl} (h : TV H xs cs) : ∃ ts : List Addr, xs = ts.map V.ref ∧ ts.length = cs.length ∧ ∀ (i : Nat) (t : Addr) (c : Cl), ts[i]? = some t → cs[i]? = some c → H t = some (.tup [.str c.1, .str c.2.1, .str c.2.2]) := by
  induction h with
  | nil => exact ⟨[], rfl, rfl, fun i t c h => by cases h⟩
  | @cons t c xs cs h1 _ ih =>
    obtain ⟨ts, rfl, h2, h3⟩ := ih
    refine ⟨t :: ts, rfl, by rw [List.length_cons, List.length_cons, h2], fun i t' c' g1 g2 => ?_⟩
    cases i with
    | zero => cases g1; cases g2; exact h1
    | succ i => exact h3 i t' c' g1 g2
theorem TV.told {H : Hp} {l : Addr} {xs : List V} {cs : List Cl} (h : TV H xs cs) (hl : H l = some (.lst xs)) : ToldAt H l cs := by
  obtain ⟨ts, rfl, h2, h3⟩ := h.ads
  exact ⟨ts, hl, h2, h3⟩
theorem tv_of {H : Hp} : ∀ (ts : List Addr) (cs : List Cl), ts.length = cs.length → (∀ (i : Nat) (t : Addr) (c : Cl), ts[i]? = some t → cs[i]? = some c → H t = some (.tup [.str c.1, .str c.2.1, .str c.2.2])) → TV H (ts.map V.ref) cs
  | [], [], _, _ => .nil
  | [], _ :: _, hl, _ => absurd hl (by rw [List.length_nil, List.length_cons]; omega)
  | _ :: _, [], hl, _ => absurd hl (by rw [List.length_nil, List.length_cons]; omega)
  | t :: ts, c :: cs, hl, f => .cons (f 0 t c rfl rfl) (tv_of ts cs (by rw [List.length_cons, List.length_cons] at hl; omega) fun i t' c' a b => f (i + 1) t' c' a b)
theorem ToldAt.tv {H : Hp} {l : Addr} {cs : List Cl} (h : ToldAt H l cs) : ∃ xs, H l = some (.lst xs) ∧ TV H xs cs := by
  obtain ⟨ts, h1, h2, h3⟩ := h
  exact ⟨_, h1, tv_of ts cs h2 h3⟩
theorem cut_hi (xs : List V) (k : Nat) : cutV xs none (some (k : Int)) = xs.take k := by
  unfold cutV
  rw [HT.sIx_nat]
  show (xs.drop 0).take (min k xs.length - 0) = _
  rw [List.drop_zero, Nat.sub_zero]
  by_cases h : k ≤ xs.length
  · rw [Nat.min_eq_left h]
  · rw [Nat.min_eq_right (by omega), List.take_of_length_le (Nat.le_refl _), List.take_of_length_le (by omega)]
theorem cut_lo (xs : List V) (k : Nat) : cutV xs (some (k : Int)) none = xs.drop k := by
  unfold cutV
  rw [HT.sIx_nat]
  show (xs.drop (min k xs.length)).take (xs.length - min k xs.length) = _
  rw [List.take_of_length_le (by rw [List.length_drop]; omega)]
  by_cases h : k ≤ xs.length
  · rw [Nat.min_eq_left h]
  · rw [Nat.min_eq_right (by omega), List.drop_of_length_le (Nat.le_refl _), List.drop_of_length_le (by omega)]
section
variable {K : PySem.W.Frag} {σ : L2.St} {H H' : Hp} {ta tb te tc : TE} {xs ys : List V} {l p : Addr} {E : XK}
theorem el_cat (h1 : EvL ta σ H xs) (h2 : ∀ H1, Ex H H1 → EvL tb σ H1 ys) (hl : xs.length + ys.length ≤ 100000) : EvL (tOp rCat ta tb) σ H (xs ++ ys) := fun H1 e Q q =>
  h1 H1 e _ fun a H2 ha e2 x2 => h2 H2 (e.trans e2) H2 (Ex.refl _) _ fun b H3 hb e3 y3 => ⟨a, b, xs, ys, rfl, rfl, e3 _ _ x2, y3, sz_of hl, fun c hc => q c _ (fresh_back (e2.trans e3) hc) ((e2.trans e3).trans (Ex.new hc)) upd_same⟩
theorem el_catV (h1 : Ev ta σ H (.ref l)) (hl1 : H l = some (.lst xs)) (h2 : ∀ H1, Ex H H1 → EvL tb σ H1 ys) (hl : xs.length + ys.length ≤ 100000) : EvL (tOp rCat ta tb) σ H (xs ++ ys) := fun H1 e Q q =>
  h1 H1 e _ fun H2 e2 => h2 H2 (e.trans e2) H2 (Ex.refl _) _ fun b H3 hb e3 y3 => ⟨l, b, xs, ys, rfl, rfl, e3 _ _ (e2 _ _ (e _ _ hl1)), y3, sz_of hl, fun c hc => q c _ (fresh_back (e2.trans e3) hc) ((e2.trans e3).trans (Ex.new hc)) upd_same⟩
theorem el_hi {k : Nat} (h : Ev te σ H (.ref l)) (hk : Ev ta σ H (.int (k : Nat))) (hl : H l = some (.lst xs)) : EvL (tSl (rSlL K) te tNoPart (tPart ta)) σ H (xs.take k) := el_is (el_sl h eo_none (eo_some hk) (sq_of hl)) (cut_hi xs k)
theorem el_lo {k : Nat} (h : Ev te σ H (.ref l)) (hk : Ev ta σ H (.int (k : Nat))) (hl : H l = some (.lst xs)) : EvL (tSl (rSlL K) te (tPart ta) tNoPart) σ H (xs.drop k) := el_is (el_sl h (eo_some hk) eo_none (sq_of hl)) (cut_lo xs k)
/-- a list of one drawn clause -/
theorem cl_pen {i n : Nat} {Q : VK} (hv : σ[i]? = some (some (.ref p))) (pen : PenAt H p n) (hn : n + 3 ≤ 100000) (k : ∀ b t (c : Cl) H', clOk c → b ≠ p → ExP p H H' → PenAt H' p (n + 3) → H' b = some (.lst [.ref t]) → H' t = some (.tup [.str c.1, .str c.2.1, .str c.2.2]) → Q (.ref b) H') :
    tLst (tCons (tCall spLClause [] E (tCons (tVar i) tNil)) tNil) σ H Q := by
  refine ⟨.ref p, hv, p, n, rfl, pen, hn, fun who sign what t H1 hwho hsign hwhat e1 pen1 tp tn ht => ⟨by show 1 ≤ sizeLine; decide, fun b hb => ?_⟩⟩
  obtain ⟨_, _, _, _, zs, _⟩ := id pen1
  exact k b t (who, sign, what) _ ⟨hwho, hsign, hwhat⟩ (fun q => by rw [q, zs] at hb; cases hb) (e1.trans (ExP.of (Ex.new hb))) (pen1.keep (Ex.new hb)) upd_same (Ex.new hb _ _ ht)
theorem mid_pen {i n k lo : Nat} {cs : List Cl} {Q : VK} (hv : σ[i]? = some (some (.ref p))) (pen : PenAt H p n) (hn : n + 3 ≤ 100000) (hl : H l = some (.lst xs)) (lp : l ≠ p) (tv : TV H xs cs) (ok : ∀ c ∈ cs, clOk c) (most : cs.length ≤ 100)
    (h1 : EvL ta σ H (xs.take k)) (h3 : ∀ H1, H1 l = some (.lst xs) → EvL tc σ H1 (xs.drop lo))
    (kk : ∀ m ys (c : Cl) H', m ≠ p → ExP p H H' → PenAt H' p (n + 3) → H' m = some (.lst ys) → TV H' ys (cs.take k ++ [c] ++ cs.drop lo) → clOk c → Q (.ref m) H') :
    tOp rCat (tOp rCat ta (tLst (tCons (tCall spLClause [] E (tCons (tVar i) tNil)) tNil))) tc σ H Q := by
  refine h1 H (Ex.refl H) _ fun a H1 ha e1 x1 => cl_pen hv (pen.keep e1) hn fun b t c H2 cok bp e2 pen2 hb ht => ?_
  obtain ⟨_, _, _, _, zs, _⟩ := id pen
  have ap : a ≠ p := fun q => by rw [q, zs] at ha; cases ha
  have tl := tv.len
  have x2 := e2.ex _ _ x1 ap
  refine ⟨a, b, _, _, rfl, rfl, x2, hb, sz_of (by rw [List.length_take, List.length_singleton]; omega), fun d hd => ?_⟩
  have e3 : Ex H2 (upd H2 d (.lst (xs.take k ++ [.ref t]))) := Ex.new hd
  have hl3 := e3 _ _ (e2.ex _ _ (e1 _ _ hl) lp)
  refine h3 _ hl3 _ (Ex.refl _) _ fun f H4 hf e4 x4 => ⟨d, f, _, _, rfl, rfl, e4 _ _ upd_same, x4, sz_of (by rw [List.length_append, List.length_take, List.length_singleton, List.length_drop]; omega), fun m hm => ?_⟩
  have e5 := (e3.trans e4).trans (Ex.new (p := m) (o := .lst (xs.take k ++ [.ref t] ++ xs.drop lo)) hm)
  obtain ⟨_, _, _, _, zs2, _⟩ := id pen2
  have pen5 := pen2.keep e5
  have tv5 : TV _ xs cs := (((tv.mono e1).grow e2.ex (e1 _ _ zs)).mono e5)
  refine kk m _ c _ (fun q => ?_) (((ExP.of e1).trans e2).trans (ExP.of e5)) pen5 upd_same (((tv5.take k).app (.cons (e5 _ _ ht) .nil)).app (tv5.drop lo)) cok
  have := (e3.trans e4) _ _ zs2
  rw [← q, hm] at this
  cases this
end
theorem sub_ok {cs : List Cl} (ok : ∀ c ∈ cs, clOk c) (k : Nat) : (∀ c ∈ cs.take k, clOk c) ∧ (∀ c ∈ cs.drop k, clOk c) := ⟨fun c m => ok c (List.mem_of_mem_take m), fun c m => ok c (List.mem_of_mem_drop m)⟩
end KY
set_option Elab.async false
set_option linter.all false
set_option maxRecDepth 100000
set_option maxHeartbeats 4000000
namespace KY
open PySem PySem.Spec PyProof.Rows L2 Evl
local macro_rules | `(tactic| walk_at "ev") => `(tactic| repeat' (first | exact ev_c | exact ev_var rfl | exact rv_I0 | refine' rv_I ?_ | refine' rv_eq ?_ | refine' rv_ne ?_ | refine' ev_op ?_ ?_ ?_ | exact ea_nil | refine' ea_cons ?_ ?_ | refine' et_test ?_ | refine' et_B ?_ | refine' et_not ?_ | refine' ev_notV ?_))

open PySem
def spAgain : Sp := fun vs H Q _ => ∃ (p l : Addr) (n : Nat) (cs : List Cl), vs = [.ref p, .ref l] ∧ PenAt H p n ∧ n + 15 ≤ 100000 ∧ ToldAt H l cs ∧ l ≠ p ∧ (∀ c ∈ cs, clOk c) ∧ 0 < cs.length ∧ cs.length ≤ 4 ∧
  ∀ (m : Addr) (ds : List Cl) H', 0 < ds.length → ds.length ≤ 5 → (∀ c ∈ ds, clOk c) → m ≠ p → ExP p H H' → PenAt H' p (n + 15) → ToldAt H' m ds → Q (.ref m) H'
theorem who_cut : ∀ who ∈ allWho, decide ((who.length : Int) > 1) = true → atI who.cps.toList ((0 : Nat) : Int) = some (who.cps.toList.getD 0 0) ∧ (⟨#[who.cps.toList.getD 0 0]⟩ : Str) ∈ allWho ∧ cutS who (some 1) none ∈ allWho := by
  have h : (allWho.all fun who => !decide ((who.length : Int) > 1) || (decide (atI who.cps.toList ((0 : Nat) : Int) = some (who.cps.toList.getD 0 0)) && decide ((⟨#[who.cps.toList.getD 0 0]⟩ : Str) ∈ allWho) && decide (cutS who (some 1) none ∈ allWho))) = true := by decide +kernel
  intro who hw h1
  have := List.all_eq_true.mp h who hw
  rw [h1] at this
  simp only [Bool.not_true, Bool.false_or, Bool.and_eq_true, decide_eq_true_eq] at this
  exact ⟨this.1.1, this.1.2, this.2⟩
theorem who_len : ∀ who ∈ allWho, who.length ≤ 100000 := by
  have h : (allWho.all fun who => decide (who.length ≤ 100000)) = true := by decide +kernel
  exact fun who hw => of_decide_eq_true (List.all_eq_true.mp h who hw)
theorem said_in : ("ugo" : Str) ∈ allWho ∧ ("+" : Str) ∈ allSign ∧ ("-" : Str) ∈ allSign ∧ ("" : Str) ∈ allw ∧ ("rwx" : Str) ∈ allw := by decide +kernel
theorem rv_notX {w : Str} {H : Hp} : RV (fun x y H Q => ∃ (c : Nat) (z : Str), x = .str ⟨#[c]⟩ ∧ y = .str z ∧ Q (.bl (!decide (c ∈ z.cps.toList))) H) (.str "X") (.str w) H (.bl (!decide (88 ∈ w.cps.toList))) := fun H1 _ _ q => ⟨88, w, congrArg V.str (by decide +kernel), rfl, q H1 (Ex.refl H1)⟩
section
variable {K : PySem.W.Frag} {σ : L2.St} {H H' : Hp} {ta tb te tc : TE} {xs ys zs : List V} {l p : Addr} {E : XK} {cs ds : List Cl}
/-- what ends a near change: a list, told -/
theorem fin_L {Q : VK} {n k : Nat} (h : EvL te σ H zs) (tv : TV H zs ds) (pen : PenAt H p n) (le : n ≤ k) (kk : ∀ m H', m ≠ p → Ex H H' → PenAt H' p k → ToldAt H' m ds → Q (.ref m) H') : te σ H Q :=
  h H (Ex.refl H) _ fun m H1 hm e1 h1 => by
    obtain ⟨_, _, _, _, zs, _⟩ := id pen
    exact kk m H1 (fun q => by rw [q, zs] at hm; cases hm) e1 ((pen.keep e1).le le) ((tv.mono e1).told h1)
/-- a list of two new tuples -/
theorem two_tup {ta tb : TE} {u v : List V} {Q : VK} (h1 : EvU ta σ H u) (h2 : ∀ H1, Ex H H1 → EvU tb σ H1 v) (k : ∀ b s t H', H b = none → Ex H H' → H' b = some (.lst [.ref s, .ref t]) → H' s = some (.tup u) → H' t = some (.tup v) → Q (.ref b) H') : tLst (tCons ta (tCons tb tNil)) σ H Q :=
  h1 H (Ex.refl H) _ fun s H1 _ e1 s1 => h2 H1 e1 H1 (Ex.refl _) _ fun t H2 _ e2 t2 => ⟨by show 2 ≤ sizeLine; decide, fun b hb => k b s t _ (fresh_back (e1.trans e2) hb) ((e1.trans e2).trans (Ex.new hb)) upd_same (Ex.new hb _ _ (e2 _ _ s1)) (Ex.new hb _ _ t2)⟩
theorem pair_tup {ta tb : TE} {u v : List V} {Q : VK} (h1 : EvU ta σ H u) (h2 : ∀ H1, Ex H H1 → EvU tb σ H1 v) (k : ∀ b s t H', H b = none → Ex H H' → H' b = some (.tup [.ref s, .ref t]) → H' s = some (.tup u) → H' t = some (.tup v) → Q (.ref b) H') : tTup (tCons ta (tCons tb tNil)) σ H Q :=
  h1 H (Ex.refl H) _ fun s H1 _ e1 s1 => h2 H1 e1 H1 (Ex.refl _) _ fun t H2 _ e2 t2 => ⟨by show 2 ≤ sizeLine; decide, fun b hb => k b s t _ (fresh_back (e1.trans e2) hb) ((e1.trans e2).trans (Ex.new hb)) upd_same (Ex.new hb _ _ (e2 _ _ s1)) (Ex.new hb _ _ t2)⟩
theorem one_cat {i : Nat} {u : List V} {Q : VK} (h1 : EvU ta σ H u) (hv : σ[i]? = some (some (.ref l))) (hl : H l = some (.lst xs)) (size : xs.length < 1000) (k : ∀ m t H', H m = none → Ex H H' → H' t = some (.tup u) → H' m = some (.lst ([.ref t] ++ xs)) → Q (.ref m) H') : tOp rCat (tLst (tCons ta tNil)) (tVar i) σ H Q :=
  h1 H (Ex.refl H) _ fun t H1 _ e1 ht => ⟨by show 1 ≤ sizeLine; decide, fun b hb => ⟨.ref l, hv, b, l, [.ref t], xs, rfl, rfl, upd_same, (e1.trans (Ex.new hb)) _ _ hl, sz_of (by rw [List.length_singleton]; omega), fun m hm => k m t _ (fresh_back (e1.trans (Ex.new hb)) hm) ((e1.trans (Ex.new hb)).trans (Ex.new hm)) (Ex.new hm _ _ (Ex.new hb _ _ ht)) upd_same⟩⟩
theorem el_catR (h1 : EvL ta σ H xs) (h2 : Ev tb σ H (.ref l)) (hl2 : H l = some (.lst ys)) (hl : xs.length + ys.length ≤ 100000) : EvL (tOp rCat ta tb) σ H (xs ++ ys) := fun H1 e Q q =>
  h1 H1 e _ fun a H2 ha e2 x2 => h2 H2 (e.trans e2) _ fun H3 e3 => ⟨a, l, xs, ys, rfl, rfl, e3 _ _ x2, e3 _ _ (e2 _ _ (e _ _ hl2)), sz_of hl, fun c hc => q c _ (fresh_back (e2.trans e3) hc) ((e2.trans e3).trans (Ex.new hc)) upd_same⟩
theorem ev_lenStr {z : Str} (h : Ev te σ H (.str z)) (hz : z.length ≤ 100000) : Ev (tCB (fun xs H Q => ∃ z, xs = [V.str z] ∧ z.length ≤ sizeLine ∧ Q (.int z.length) H) (tCons te tNil)) σ H (.int z.length) := fun H1 e Q q => h H1 e _ fun H2 e2 => ⟨z, rfl, sz_of hz, q H2 e2⟩
theorem mid_two {k lo : Nat} {u v : List V} {t1 t2 : TE} {Q : VK} (hl : H l = some (.lst xs)) (most : xs.length ≤ 100) (h1 : EvL ta σ H (xs.take k)) (h2 : ∀ H1, Ex H H1 → EvU t1 σ H1 u) (h3 : ∀ H1, Ex H H1 → EvU t2 σ H1 v) (h4 : ∀ H1, H1 l = some (.lst xs) → EvL tc σ H1 (xs.drop lo))
    (kk : ∀ m s t H', H m = none → Ex H H' → H' m = some (.lst (xs.take k ++ [.ref s, .ref t] ++ xs.drop lo)) → H' s = some (.tup u) → H' t = some (.tup v) → Q (.ref m) H') : tOp rCat (tOp rCat ta (tLst (tCons t1 (tCons t2 tNil)))) tc σ H Q := by
  refine h1 H (Ex.refl H) _ fun a H1 ha e1 x1 => two_tup (h2 H1 e1) (fun H2 e2 => h3 H2 (e1.trans e2)) fun b s t H2 hb e2 hbl hs ht => ?_
  have l2 : ([.ref s, .ref t] : List V).length = 2 := rfl
  refine ⟨a, b, _, _, rfl, rfl, e2 _ _ x1, hbl, sz_of (by rw [List.length_take, l2]; omega), fun d hd => ?_⟩
  have e3 : Ex H2 (upd H2 d (.lst (xs.take k ++ [.ref s, .ref t]))) := Ex.new hd
  refine h4 _ (e3 _ _ (e2 _ _ (e1 _ _ hl))) _ (Ex.refl _) _ fun f H4 hf e4 x4 => ⟨d, f, _, _, rfl, rfl, e4 _ _ upd_same, x4, sz_of (by rw [List.length_append, List.length_take, l2, List.length_drop]; omega), fun m hm => ?_⟩
  have e5 := (e3.trans e4).trans (Ex.new (p := m) (o := .lst (xs.take k ++ [.ref s, .ref t] ++ xs.drop lo)) hm)
  exact kk m s t _ (fresh_back ((e1.trans e2).trans (e3.trans e4)) hm) ((e1.trans e2).trans e5) upd_same (e5 _ _ hs) (e5 _ _ ht)
theorem two_lc {i j : Nat} {vs : List Nat} {t1 t2 : TE} {u v : List V} {tz : TS} {D : Ends} (h1 : EvU t1 σ H u) (h2 : ∀ H1, Ex H H1 → EvU t2 σ H1 v) (hw : ∀ x, wipe ((wipe σ vs).set j (some x)) vs = wipe σ vs) (hj : ∀ x, ((wipe σ vs).set j (some x))[j]? = some (some x))
    (k : ∀ m s t H', H m = none → Ex H H' → H' m = some (.lst [.ref s, .ref t]) → H' s = some (.tup u) → H' t = some (.tup v) → tz D (σ.set i (some (.ref m))) H') :
    tSeq (tAsg (tLc (iTup K (tTup (tCons t1 (tCons t2 tNil)))) (gName j) tYes (tVar j) vs) (gName i)) tz D σ H := by
  show tLc (iTup K (tTup (tCons t1 (tCons t2 tNil)))) (gName j) tYes (tVar j) vs σ H (fun x H1 => gName i x σ H1 (tz D))
  unfold tLc iTup
  refine pair_tup h1 h2 fun b s t H1 hb0 e1 hb hs ht => ?_
  exact (el_is (el_lcT (K := K) (tl := tC (.ref b)) (xs := [.ref s, .ref t]) (g := gName j) (t := tYes) (te := tVar j) (vs := vs) (σ := σ) (σ' := fun x => (wipe σ vs).set j (some x)) (fun _ => true) (fun i => if i = 0 then .ref s else .ref t) ev_c (st_of hb) (by show 2 ≤ 40000; decide) (fun i x H1 Q' _ _ q => q) hw (fun _ _ _ _ _ => et_yes) (fun i x H1 _ hx _ => ev_is (ev_var (hj x)) (by
          match i, hx with
          | 0, hx => cases hx; rfl
          | 1, hx => cases hx; rfl
          | n + 2, hx => simp at hx))) (show given 2 (fun _ => true) _ = [.ref s, .ref t] from rfl)) H1 (Ex.refl _) (fun x H2 => gName i x σ H2 (tz D)) fun m H2 hm e2 hml => k m s t H2 (fresh_back e1 hm) (e1.trans e2) hml (e2 _ _ hs) (e2 _ _ ht)
theorem take_len {α : Type} (cs : List α) (k : Nat) : (cs.take k).length ≤ k ∧ (cs.take k).length ≤ cs.length ∧ (cs.drop k).length = cs.length - k := by
  rw [List.length_take, List.length_drop]
  omega
end
section
variable {P : Program} {w : World} {K : PySem.W.Frag} {mg : Str → Option Value} {base : Heap} {a : Ads}
theorem ok_again (T : Txt w K mg a) : FnOk P w K mg base CX0 8 a.f__law_again a.d__law_again ["_law_pen_here", "_law_told"] spAgain := by
  have G__law_draw : FnOk P w K mg base CX0 7 _ _ _ _ := (ok_draw T).mono (by decide)
  have G__law_clause : FnOk P w K mg base CX0 7 _ _ _ _ := (ok_lclause T).mono (by decide)
  have G__law_change : FnOk P w K mg base CX0 7 _ _ _ _ := (ok_lchange T).mono (by decide)
  refine T.fn__law_again.ok sc__law_again (fun vs H Q E h => ?_) (fun cdv A outer s H vs Q E hr h => ?_)
  · obtain ⟨_, _, _, _, rfl, _⟩ := h
    rfl
  · obtain ⟨p, l, n, cs, rfl, pen, hn, told, lp, ok, pos, most, k⟩ := h
    have hrc : Room 7 _ := hr
    refine ⟨_, (pss_cons (ps_par (i := 2) (j := 3) rfl sc__law_again.nd rfl rfl (by decide) rfl rfl (pa_cons (pe_call G__law_draw hrc rfl T.mg__law_draw T.fn__law_draw.kp (bd__law_draw T) .nil pass0 (pa_cons (pv 0) (pa_cons pe_int pa_nil))) (pa_cons (pe_call G__law_draw hrc rfl T.mg__law_draw T.fn__law_draw.kp (bd__law_draw T) .nil pass0 (pa_cons (pv 0) (pa_cons (pe_callB call_len_seq (by rfl) T.b_len PySem.boot_len (pa_cons (pv 1) pa_nil)) pa_nil))) pa_nil)) (by rfl))
    (pss_cons (ps_if (pt_cmpR op_eq (pv 2) pe_int (nomark _)) (pss_one (ps_ret (pe_op op_cat (pe_op op_cat (pe_slice sl_list (pv 1) po_none (po_some (pv 3))) (pe_lst (pa_cons (pe_call G__law_clause hrc rfl T.mg__law_clause T.fn__law_clause.kp (bd__law_clause T) .nil pass0 (pa_cons (pv 0) pa_nil)) pa_nil))) (pe_slice sl_list (pv 1) (po_some (pv 3)) po_none)))) pss_nil)
    (pss_cons (ps_if (pt_cmpR op_eq (pv 2) pe_int (nomark _)) (pss_one (ps_ret (pe_op op_cat (pe_op op_cat (pe_slice sl_list (pv 1) po_none (po_some (pv 3))) (pe_lst (pa_cons (pe_call G__law_clause hrc rfl T.mg__law_clause T.fn__law_clause.kp (bd__law_clause T) .nil pass0 (pa_cons (pv 0) pa_nil)) pa_nil))) (pe_slice sl_list (pv 1) (po_some (pe_op op_add (pv 3) pe_int)) po_none)))) pss_nil)
    (pss_cons (ps_if (PW.pt (pw_and (pt_cmpR op_eq (pv 2) pe_int (nomark _)) (pw_and1 (pt_cmpR op_gt (pe_callB call_len_seq (by rfl) T.b_len PySem.boot_len (pa_cons (pv 1) pa_nil)) pe_int (nomark _))))) (pss_one (ps_ret (pe_op op_cat (pe_slice sl_list (pv 1) po_none (po_some (pv 3))) (pe_slice sl_list (pv 1) (po_some (pe_op op_add (pv 3) pe_int)) po_none)))) pss_nil)
    (pss_cons (ps_if (pt_cmpR op_eq (pv 2) pe_int (nomark _)) (pss_one (ps_ret (pe_op op_cat (pv 1) (pe_lst (pa_cons (pe_ix ix_list (pv 1) (pe_un un_neg pe_int) (fun _ _ => rfl)) pa_nil))))) pss_nil)
    (pss_cons (ps_if (pt_cmpR op_eq (pv 2) pe_int (nomark _)) (pss_one (ps_ret (pe_op op_cat (pe_lst (pa_cons (pe_tup (pa_cons pe_str (pa_cons pe_str (pa_cons pe_str pa_nil)))) pa_nil)) (pv 1)))) pss_nil)
    (pss_cons (ps_asg (pe_ix ix_list (pv 1) (pv 3) (fun _ _ => rfl)) (pg_tup rfl (pgs_cons (pg_name (i := 4) sc__law_again.nd rfl (Or.inl rfl)) (pgs_cons (pg_name (i := 5) sc__law_again.nd rfl (Or.inl rfl)) (pgs_cons (pg_name (i := 6) sc__law_again.nd rfl (Or.inl rfl)) pgs_nil)))))
    (pss_cons (ps_if (PW.pt (pw_and (pt_cmpR op_eq (pv 5) pe_str (nomark _)) (pw_and (pt_cmpR op_notIn_seq (pv 6) (pe_tup (pa_cons pe_str (pa_cons pe_str (pa_cons pe_str pa_nil)))) (by rfl)) (pw_and1 (pt_cmpR op_notIn_sign pe_str (pv 6) (by rfl)))))) (pss_cons (ps_setLc (i := 7) (own := [("_law_one_so", 8)]) (g := gName 8) rfl sc__law_again.nd rfl rfl (sw_true rfl rfl rfl (by decide +kernel)) (pi_tup (pe_tup (pa_cons (pe_tup (pa_cons (pv 4) (pa_cons pe_str (pa_cons pe_str pa_nil)))) (pa_cons (pe_tup (pa_cons (pv 4) (pa_cons pe_str (pa_cons (pv 6) pa_nil)))) pa_nil)))) (blkOk_by (own := [("_law_one_so", 8)]) (N := n__law_again) (sc := defScope s__law_again) (by decide +kernel)) (fun _ _ _ _ _ => (pg_name (i := 8) sc__law_again.nd rfl (Or.inl rfl))) (fun _ _ _ _ _ => pts_nil) (fun _ _ _ _ _ => (pv 8)))
    (pss_one (ps_ret (pe_op op_cat (pe_op op_cat (pe_slice sl_list (pv 1) po_none (po_some (pv 3))) (pv 7)) (pe_slice sl_list (pv 1) (po_some (pe_op op_add (pv 3) pe_int)) po_none))))) pss_nil)
    (pss_cons (ps_if (PW.pt (pw_and (pt_cmpR op_gt (pe_callB call_len_str (by rfl) T.b_len PySem.boot_len (pa_cons (pv 4) pa_nil)) pe_int (nomark _)) (pw_and (pt_cmpR op_ne (pv 5) pe_str (nomark _)) (pw_and1 (pt_cmpR op_in_seq (pv 6) (pe_tup (pa_cons pe_str (pa_cons pe_str (pa_cons pe_str (pa_cons pe_str (pa_cons pe_str (pa_cons pe_str pa_nil))))))) (by rfl)))))) (pss_one (ps_ret (pe_op op_cat (pe_op op_cat (pe_slice sl_list (pv 1) po_none (po_some (pv 3))) (pe_lst (pa_cons (pe_tup (pa_cons (pe_ix ix_str (pv 4) pe_int (fun _ _ => rfl)) (pa_cons (pv 5) (pa_cons (pv 6) pa_nil)))) (pa_cons (pe_tup (pa_cons (pe_slice sl_str (pv 4) (po_some pe_int) po_none) (pa_cons (pv 5) (pa_cons (pv 6) pa_nil)))) pa_nil)))) (pe_slice sl_list (pv 1) (po_some (pe_op op_add (pv 3) pe_int)) po_none)))) pss_nil)
    (pss_one (ps_ret (pe_call G__law_change hrc rfl T.mg__law_change T.fn__law_change.kp (bd__law_change T) .nil pass0 (pa_cons (pv 0) (pa_cons pe_int pa_nil)))))))))))))), ?_⟩
    obtain ⟨X, hX, tv⟩ := told.tv
    have lenX := tv.len
    refine ⟨.ref p, rfl, p, n, 7, rfl, pen, by omega, by decide, by decide, fun wy H1 hw e1 pen1 => ?_⟩
    obtain ⟨_, _, _, _, zs0, _⟩ := id pen
    have hX1 := e1.ex _ _ hX lp
    refine ⟨.ref p, rfl, .ref l, rfl, l, X, rfl, .inl (sq_of hX1), p, n + 1, X.length, rfl, pen1, by omega, by omega, by omega, fun d H2 hd e2 pen2 => ⟨_, _, rfl, ?_⟩⟩
    have e02 := e1.trans e2
    have hX2 : H2 l = some (.lst X) := e2.ex _ _ hX1 lp
    have tv2 : TV H2 X cs := tv.grow e02.ex zs0
    have hd2 : d < cs.length := by omega
    have lens := take_len cs d
    have lens1 := take_len cs (d + 1)
    show tSeq _ _ _ [some (.ref p), some (.ref l), some (.int (wy : Nat)), some (.int (d : Nat)), none, none, none, none, none] H2
    have hi : ∀ {σ : L2.St} {H' : Hp} {te tk : TE}, Ev te σ H' (.ref l) → Ev tk σ H' (.int (d : Nat)) → H' l = some (.lst X) → EvL (tSl (rSlL K) te tNoPart (tPart tk)) σ H' (X.take d) := fun a b c => el_hi a b c
    have lo1 : ∀ {σ : L2.St} {H' : Hp} {te tk : TE}, Ev te σ H' (.ref l) → Ev tk σ H' (.int (d : Nat)) → H' l = some (.lst X) → EvL (tSl (rSlL K) te (tPart (tOp (rI0 fun i j => .int (i + j)) tk (tC (.int 1)))) tNoPart) σ H' (X.drop (d + 1)) := fun a b c => el_lo (k := d + 1) a (ev_op b ev_c rv_I0) c
    have ok1 : ∀ (c : Cl), clOk c → ∀ lo, ∀ q ∈ cs.take d ++ [c] ++ cs.drop lo, clOk q := fun c hc lo q m => by
      rcases List.mem_append.mp m with m | m
      · rcases List.mem_append.mp m with m | m
        · exact ok q (List.mem_of_mem_take m)
        · rw [List.mem_singleton.mp m]; exact hc
      · exact ok q (List.mem_of_mem_drop m)
    refine q_when (et_test (ev_op (ev_var rfl) ev_c (rv_eq rfl))) (fun _ H3 e3 => ?_) (fun _ H3 e3 => ?_)
    · refine mid_pen (i := 0) (k := d) (lo := d) (cs := cs) rfl (pen2.keep e3) (by omega) (e3 _ _ hX2) lp (tv2.mono e3) ok (by omega) (hi (ev_var rfl) (ev_var rfl) (e3 _ _ hX2)) (fun H' h' => el_lo (ev_var rfl) (ev_var rfl) h') fun m ys c H' mp e4 pen4 hm tv4 cok => ?_
      exact k m _ H' (by rw [List.length_append, List.length_append, List.length_singleton]; omega) (by rw [List.length_append, List.length_append, List.length_singleton]; omega) (ok1 c cok d) mp ((e02.trans (ExP.of e3)).trans e4) (pen4.le (by omega)) (tv4.told hm)
    refine q_when (et_test (ev_op (ev_var rfl) ev_c (rv_eq rfl))) (fun _ H4 e4 => ?_) (fun _ H4 e4 => ?_)
    · have e34 := e3.trans e4
      refine mid_pen (i := 0) (k := d) (lo := d + 1) (cs := cs) rfl (pen2.keep e34) (by omega) (e34 _ _ hX2) lp (tv2.mono e34) ok (by omega) (hi (ev_var rfl) (ev_var rfl) (e34 _ _ hX2)) (fun H' h' => lo1 (ev_var rfl) (ev_var rfl) h') fun m ys c H' mp e5 pen5 hm tv5 cok => ?_
      exact k m _ H' (by rw [List.length_append, List.length_append, List.length_singleton]; omega) (by rw [List.length_append, List.length_append, List.length_singleton]; omega) (ok1 c cok (d + 1)) mp ((e02.trans (ExP.of e34)).trans e5) (pen5.le (by omega)) (tv5.told hm)
    have e34 := e3.trans e4
    have hX4 := e34 _ _ hX2
    refine q_when (et_and (et_test (ev_op (ev_var rfl) ev_c (rv_eq rfl))) fun _ => et_test (ev_op (ev_lenS (K := K) (ev_var rfl) (sq_of hX4)) ev_c rv_I0)) (fun hb H5 e5 => ?_) (fun _ H5 e5 => ?_)
    · have h2 : 2 ≤ cs.length := by
        have := (Bool.and_eq_true_iff.mp hb).2
        have := of_decide_eq_true this
        omega
      have e25 := e34.trans e5
      refine fin_L (p := p) (n := n + 2) (k := n + 15) (ds := cs.take d ++ cs.drop (d + 1)) (el_cat (hi (ev_var rfl) (ev_var rfl) (e25 _ _ hX2)) (fun H' e' => lo1 (ev_var rfl) (ev_var rfl) (e' _ _ (e25 _ _ hX2))) (by rw [List.length_take, List.length_drop]; omega)) (((tv2.mono e25).take d).app ((tv2.mono e25).drop (d + 1))) (pen2.keep e25) (by omega) fun m H' mp e' pen' told' => ?_
      exact k m _ H' (by rw [List.length_append, lens1.2.2, List.length_take]; omega) (by rw [List.length_append]; omega) (fun q mm => (List.mem_append.mp mm).elim (fun z => ok q (List.mem_of_mem_take z)) (fun z => ok q (List.mem_of_mem_drop z))) mp (e02.trans (ExP.of (e25.trans e'))) pen' told'
    have e25 := e34.trans e5
    have hX5 := e25 _ _ hX2
    have tv5 := tv2.mono e25
    refine q_when (et_test (ev_op (ev_var rfl) ev_c (rv_eq rfl))) (fun _ H6 e6 => ?_) (fun _ H6 e6 => ?_)
    · have tv6 := tv5.mono e6
      have hX6 := e6 _ _ hX5
      have hl : cs.length - 1 < cs.length := by omega
      obtain ⟨t, ht, htt⟩ := tv6.at_ (cs.length - 1) cs[cs.length - 1] (by simp [hl])
      have ati : atI X (-1) = some (.ref t) := by
        unfold atI
        have : ixN X.length (-1) = some (cs.length - 1) := by
          unfold ixN
          rw [lenX]
          simp
          omega
        rw [this]
        exact ht
      refine fin_L (p := p) (n := n + 2) (k := n + 15) (ds := cs ++ [cs[cs.length - 1]]) (el_catV (ev_var rfl) hX6 (fun H' e' => el_lst (ea_cons (ev_op (ev_var rfl) (ev_un ev_c ru_neg) (rv_ixL (K := K) (sq_of (e' _ _ hX6)) ati)) ea_nil) (by show 1 ≤ 100000; decide)) (by rw [List.length_singleton]; omega)) (tv6.app (.cons htt .nil)) ((pen2.keep e25).keep e6) (by omega) fun m H' mp e' pen' told' => ?_
      exact k m _ H' (by rw [List.length_append]; omega) (by rw [List.length_append, List.length_singleton]; omega) (fun q mm => (List.mem_append.mp mm).elim (ok q) (fun z => by rw [List.mem_singleton.mp z]; exact ok _ (List.getElem_mem hl))) mp (e02.trans (ExP.of ((e25.trans e6).trans e'))) pen' told'
    have e26 := e25.trans e6
    refine q_when (et_test (ev_op (ev_var rfl) ev_c (rv_eq rfl))) (fun _ H7 e7 => ?_) (fun _ H7 e7 => ?_)
    · have e27 := e26.trans e7
      refine one_cat (i := 1) (xs := X) (u := [.str "ugo", .str "+", .str ""]) (eu_tup (ea_cons ev_c (ea_cons ev_c (ea_cons ev_c ea_nil))) (by show 3 ≤ 100000; decide)) rfl (e27 _ _ hX2) (by omega) fun m t H8 hm e8 ht hml => ?_
      have mp : m ≠ p := fun z => by
        obtain ⟨_, _, _, _, zs, _⟩ := id (pen2.keep e27)
        rw [z, zs] at hm
        cases hm
      exact k m (("ugo", "+", "") :: cs) _ (by rw [List.length_cons]; omega) (by rw [List.length_cons]; omega) (fun q mm => by
        rcases List.mem_cons.mp mm with z | z
        · rw [z]; exact ⟨said_in.1, said_in.2.1, said_in.2.2.2.1⟩
        · exact ok q z) mp (e02.trans (ExP.of (e27.trans e8))) ((pen2.keep (e27.trans e8)).le (by omega)) (TV.told (xs := [.ref t] ++ X) (.cons ht (tv2.mono (e27.trans e8))) hml)
    have e27 := e26.trans e7
    have hX7 := e27 _ _ hX2
    have tv7 := tv2.mono e27
    obtain ⟨t, ht, htt⟩ := tv7.at_ d cs[d] (by simp [hd2])
    have cok := ok cs[d] (List.getElem_mem hd2)
    generalize cs[d] = c at htt cok
    obtain ⟨who, sign, what⟩ := c
    refine q_asgTV (K := K) (xs := [.str who, .str sign, .str what]) (ev_op (ev_var rfl) (ev_var rfl) (rv_ixL (K := K) (sq_of hX7) (atI_nat ht))) (st_of htt) rfl fun H8 e8 => ⟨_, _, rfl, _, _, rfl, _, _, rfl, rfl, ?_⟩
    have e28 := e27.trans e8
    show tSeq _ _ _ [some (.ref p), some (.ref l), some (.int (wy : Nat)), some (.int (d : Nat)), some (.str who), some (.str sign), some (.str what), none, none] H8
    have tv8 := tv2.mono e28
    have hX8 := e28 _ _ hX2
    have pen8 := pen2.keep e28
    obtain ⟨whoOk, signOk, whatOk⟩ := cok
    have two : ∀ (c1 c2 : Cl), clOk c1 → clOk c2 → (∀ q ∈ cs.take d ++ [c1, c2] ++ cs.drop (d + 1), clOk q) ∧ 0 < (cs.take d ++ [c1, c2] ++ cs.drop (d + 1)).length ∧ (cs.take d ++ [c1, c2] ++ cs.drop (d + 1)).length ≤ 5 := fun c1 c2 h1 h2 => by
      have l2 : ([c1, c2] : List Cl).length = 2 := rfl
      refine ⟨fun q m => ?_, by rw [List.length_append, List.length_append, l2]; omega, by rw [List.length_append, List.length_append, l2]; omega⟩
      rcases List.mem_append.mp m with m | m
      · rcases List.mem_append.mp m with m | m
        · exact ok q (List.mem_of_mem_take m)
        · rcases List.mem_cons.mp m with z | z
          · rw [z]; exact h1
          · rw [List.mem_singleton.mp z]; exact h2
      · exact ok q (List.mem_of_mem_drop m)
    refine q_when (et_and (et_test (ev_op (ev_var rfl) ev_c (rv_eq rfl))) fun _ => et_and (et_test (ev_niU (K := K) (xs := [.str "u", .str "g", .str "o"]) (ev_var rfl) (eu_tup (ea_cons ev_c (ea_cons ev_c (ea_cons ev_c ea_nil))) (by show 3 ≤ 100000; decide)) rfl rfl)) fun _ => et_test (ev_op ev_c (ev_var rfl) rv_notX)) (fun _ H9 e9 => ?_) (fun _ H9 e9 => ?_)
    · refine two_lc (K := K) (u := [.str who, .str "-", .str "rwx"]) (v := [.str who, .str "+", .str what]) (eu_tup (ea_cons (ev_var rfl) (ea_cons ev_c (ea_cons ev_c ea_nil))) (by show 3 ≤ 100000; decide)) (fun _ _ => eu_tup (ea_cons (ev_var rfl) (ea_cons ev_c (ea_cons (ev_var rfl) ea_nil))) (by show 3 ≤ 100000; decide)) (fun _ => rfl) (fun _ => rfl) fun m7 s1 t1 H11 hm7 e11 h7 hs1 ht1 => ?_
      have e2b := (e28.trans e9).trans e11
      have hXb := e2b _ _ hX2
      have tvb := tv2.mono e2b
      obtain ⟨k1, k2, k3⟩ := two (who, "-", "rwx") (who, "+", what) ⟨whoOk, said_in.2.2.1, said_in.2.2.2.2⟩ ⟨whoOk, said_in.2.1, whatOk⟩
      show tRet _ _ [some (.ref p), some (.ref l), some (.int (wy : Nat)), some (.int (d : Nat)), some (.str who), some (.str sign), some (.str what), some (.ref m7), none] H11
      refine fin_L (p := p) (n := n + 2) (k := n + 15) (ds := cs.take d ++ ([(who, ("-" : Str), ("rwx" : Str)), (who, ("+" : Str), what)] : List Cl) ++ cs.drop (d + 1)) (el_cat (el_catR (hi (ev_var rfl) (ev_var rfl) hXb) (ev_var rfl) h7 (by rw [List.length_take]; show _ + 2 ≤ 100000; omega)) (fun H' e' => lo1 (ev_var rfl) (ev_var rfl) (e' _ _ hXb)) (by rw [List.length_append, List.length_take, List.length_drop]; show _ + 2 + _ ≤ 100000; omega)) (((tvb.take d).app (.cons hs1 (.cons ht1 .nil))).app (tvb.drop (d + 1))) (pen2.keep e2b) (by omega) fun m H' mp e' pen' told' => ?_
      exact k m _ H' k2 k3 k1 mp (e02.trans (ExP.of (e2b.trans e'))) pen' told'
    have e29 := e28.trans e9
    have hX9 := e29 _ _ hX2
    refine q_when (et_and (et_test (ev_op (ev_lenStr (ev_var rfl) (who_len who whoOk)) ev_c rv_I0)) fun _ => et_and (et_test (ev_op (ev_var rfl) ev_c (rv_ne rfl))) fun _ => et_test (ev_inU (K := K) (xs := [.str "r", .str "w", .str "x", .str "rx", .str "wx", .str "rwx"]) (ev_var rfl) (eu_tup (ea_cons ev_c (ea_cons ev_c (ea_cons ev_c (ea_cons ev_c (ea_cons ev_c (ea_cons ev_c ea_nil)))))) (by show 6 ≤ 100000; decide)) rfl rfl)) (fun hb H10 e10 => ?_) (fun _ H10 e10 => ?_)
    · obtain ⟨w1, w2, w3⟩ := who_cut who whoOk (Bool.and_eq_true_iff.mp hb).1
      have e2a := e29.trans e10
      have hXa := e2a _ _ hX2
      refine mid_two (σ := [some (.ref p), some (.ref l), some (.int (wy : Nat)), some (.int (d : Nat)), some (.str who), some (.str sign), some (.str what), none, none]) (k := d) (lo := d + 1) (u := [.str ⟨#[who.cps.toList.getD 0 0]⟩, .str sign, .str what]) (v := [.str (cutS who (some 1) none), .str sign, .str what]) hXa (by omega) (hi (ev_var rfl) (ev_var rfl) hXa) (fun _ _ => eu_tup (ea_cons (ev_op (ev_var rfl) ev_c (rv_ixS (who_len who whoOk) w1)) (ea_cons (ev_var rfl) (ea_cons (ev_var rfl) ea_nil))) (by show 3 ≤ 100000; decide)) (fun _ _ => eu_tup (ea_cons (ev_slS (ev_var rfl) (eo_some ev_c) eo_none (who_len who whoOk)) (ea_cons (ev_var rfl) (ea_cons (ev_var rfl) ea_nil))) (by show 3 ≤ 100000; decide)) (fun H' h' => lo1 (ev_var rfl) (ev_var rfl) h') fun m s1 t1 H' hm e' hml hs1 ht1 => ?_
      obtain ⟨k1, k2, k3⟩ := two (⟨#[who.cps.toList.getD 0 0]⟩, sign, what) (cutS who (some 1) none, sign, what) ⟨w2, signOk, whatOk⟩ ⟨w3, signOk, whatOk⟩
      have mp : m ≠ p := fun z => by
        obtain ⟨_, _, _, _, zs, _⟩ := id (pen2.keep e2a)
        rw [z, zs] at hm
        cases hm
      have tvb := (tv2.mono e2a).mono e'
      exact k m _ H' k2 k3 k1 mp (e02.trans (ExP.of (e2a.trans e'))) ((pen2.keep (e2a.trans e')).le (by omega)) ((((tvb.take d).app (.cons hs1 (.cons ht1 .nil))).app (tvb.drop (d + 1))).told hml)
    · have e2a := e29.trans e10
      exact ⟨.ref p, rfl, p, n + 2, 4, rfl, pen2.keep e2a, by omega, by decide, by decide, fun m ds H' pos' most' ok' mp e' pen' told' => k m ds H' pos' (by omega) ok' mp ((e02.trans (ExP.of e2a)).trans e') (pen'.le (by omega)) told'⟩
end
end KY
set_option Elab.async false
set_option linter.all false
set_option maxRecDepth 100000
set_option maxHeartbeats 4000000
namespace KY
open PySem PySem.Spec PyProof.Rows L2 Evl
local macro_rules | `(tactic| walk_at "ev") => `(tactic| repeat' (first | exact ev_c | exact ev_var rfl | exact rv_I0 | refine' rv_I ?_ | refine' rv_eq ?_ | refine' rv_ne ?_ | refine' ev_op ?_ ?_ ?_ | exact ea_nil | refine' ea_cons ?_ ?_ | refine' et_test ?_ | refine' et_B ?_ | refine' et_not ?_ | refine' ev_notV ?_))

open PySem
def spJoin : Sp := fun vs H Q _ => ∃ (p l : Addr) (n : Nat) (cs : List Cl), vs = [.ref p, .ref l] ∧ PenAt H p n ∧ n + 250 ≤ 100000 ∧ ToldAt H l cs ∧ l ≠ p ∧ (∀ c ∈ cs, clOk c) ∧ 0 < cs.length ∧ cs.length ≤ 4 ∧
  ∀ H', ExP p H H' → PenAt H' p (n + 250) → Q (.bl true) H'
theorem len_app (x y : Str) : (x ++ y).length = x.length + y.length := by
  show (x.cps ++ y.cps).size = _
  rw [Array.size_append]
  rfl
theorem join_le (y : Str) : ∀ ys : List Str, (Str.join y ys).length ≤ (ys.map (·.length)).sum + ys.length * y.length
  | [] => Nat.zero_le _
  | [x] => by
    show x.length ≤ _
    simp
  | x :: z :: r => by
    have := join_le y (z :: r)
    have e : (Str.join y (x :: z :: r)).length = x.length + y.length + (Str.join y (z :: r)).length := by
      show (x ++ y ++ Str.join y (z :: r)).length = _
      rw [len_app, len_app]
    rw [e]
    simp only [List.map_cons, List.sum_cons, List.length_cons] at this ⊢
    have m : (r.length + 1 + 1) * y.length = (r.length + 1) * y.length + y.length := Nat.succ_mul _ _
    rw [m]
    omega
theorem text_len {cs : List Cl} (ok : ∀ c ∈ cs, clOk c) (most : cs.length ≤ 4) : (Txt.join "," (cs.map clText)).length ≤ 1000 := by
  rw [TL.join_eq]
  have h := join_le "," (cs.map clText)
  have sum : ∀ ds : List Cl, (∀ c ∈ ds, clOk c) → ((ds.map clText).map (·.length)).sum ≤ ds.length * 100 := by
    intro ds
    induction ds with
    | nil => intro _; exact Nat.le_refl 0
    | cons c ds ih =>
      intro h
      have := ih fun d m => h d (List.mem_cons_of_mem _ m)
      have := clText_len (h c (List.mem_cons_self ..))
      simp only [List.map_cons, List.sum_cons, List.length_cons]
      omega
  have := sum cs ok
  rw [List.length_map, show ("," : Str).length = 1 by decide +kernel] at h
  omega

theorem last_at {x : V} (h : x ∈ ([.str "u+X", .str "g=u", .str "a-w", .str "o=g,u-x"] : List V)) : ∃ (s : Str) (es : List Cl), x = .str s ∧ Txt.split s "," = es.map clText ∧ s.length ≤ 1000 ∧ (∀ c ∈ es, clOk c) ∧ 0 < es.length ∧ es.length ≤ 2 := by
  simp only [List.mem_cons, List.not_mem_nil, or_false] at h
  have f : ∀ (s : Str) (es : List Cl), (decide (Txt.split s "," = es.map clText) && decide (s.length ≤ 1000) && decide (∀ c ∈ es, c.1 ∈ allWho ∧ c.2.1 ∈ allSign ∧ c.2.2 ∈ allw) && decide (0 < es.length) && decide (es.length ≤ 2)) = true → Txt.split s "," = es.map clText ∧ s.length ≤ 1000 ∧ (∀ c ∈ es, clOk c) ∧ 0 < es.length ∧ es.length ≤ 2 := fun s es q => by
    simp only [Bool.and_eq_true, decide_eq_true_eq] at q
    exact ⟨q.1.1.1.1, q.1.1.1.2, q.1.1.2, q.1.2, q.2⟩
  rcases h with rfl | rfl | rfl | rfl
  · exact ⟨_, [("u", "+", "X")], rfl, f _ _ (by decide +kernel)⟩
  · exact ⟨_, [("g", "=", "u")], rfl, f _ _ (by decide +kernel)⟩
  · exact ⟨_, [("ugo", "-", "w")], rfl, f _ _ (by decide +kernel)⟩
  · exact ⟨_, [("o", "=", "g"), ("u", "-", "x")], rfl, f _ _ (by decide +kernel)⟩
theorem form_mem {x : V} (h : x ∈ ([.str "file", .str "folder"] : List V)) : ∃ form ∈ forms, x = .str form := by
  simp only [List.mem_cons, List.not_mem_nil, or_false] at h
  rcases h with rfl | rfl
  · exact ⟨"file", by decide +kernel, rfl⟩
  · exact ⟨"folder", by decide +kernel, rfl⟩
theorem foldN_app (cs ds : List Cl) (n : Nat) (form : Str) : foldN (cs ++ ds) n form = foldN ds (foldN cs n form) form := by
  unfold foldN
  rw [List.foldl_append]
/-- a change, old or new -/
def EvO2 (K : PySem.W.Frag) (a : Ads) (te : TE) (σ : L2.St) (H : Hp) (cs : List Cl) : Prop := ∀ H1, Ex H H1 → ∀ Q : VK, (∀ p H2, Ex H1 H2 → ChangeAt K a H2 p cs → Q (.ref p) H2) → te σ H1 Q
section
variable {X : Cx} {K : PySem.W.Frag} {a : Ads} {σ : L2.St} {H H' : Hp} {ta tb te tf tm tn tg : TE} {E : XK} {cs ds : List Cl} {p q c : Addr} {form : Str} {n m : Nat} {xs : List V} {D : Ends} {tz : TS}
theorem eo_var {i : Nat} (h : σ[i]? = some (some (.ref p))) (ch : ChangeAt K a H p cs) : EvO2 K a (tVar i) σ H cs := fun H1 e Q q => ⟨.ref p, h, q p H1 (Ex.refl H1) (ch.mono e)⟩
theorem EvCh.old (h : EvCh K a te σ H cs) : EvO2 K a te σ H cs := fun H1 e Q q => h H1 e Q fun p H2 _ e2 c => q p H2 e2 c
theorem ech_mul (h1 : EvO2 K a ta σ H cs) (h2 : EvO2 K a tb σ H ds) (okc : ∀ c ∈ cs, clOk c) (okd : ∀ c ∈ ds, clOk c) (pc : 0 < cs.length) (pd : 0 < ds.length) (most : cs.length + ds.length ≤ 8) : EvCh K a (tOp (rOwnI K a.f_Change (fun vs H Q E => spMul K a (vs ++ []) H Q E) E) ta tb) σ H (cs ++ ds) := fun H1 e Q k =>
  h1 H1 e _ fun p H2 e2 c1 => h2 H2 (e.trans e2) _ fun q' H3 e3 c2 => by
    have c1' := c1.mono e3
    obtain ⟨dx, _, _, _, ho, _⟩ := id c1'
    obtain ⟨dy, _, _, _, hq, _⟩ := id c2
    exact ⟨p, dx, _, q', dy, _, rfl, rfl, ho, hq, p, q', cs, ds, rfl, c1', c2, okc, okd, pc, pd, most, fun x H4 hx e4 c => k x H4 (fresh_back (e2.trans e3) hx) ((e2.trans e3).trans e4) c⟩
theorem ech_readE {s : Str} (h : Ev te σ H (.str s)) (hs : Txt.split s "," = cs.map clText) (hl : s.length ≤ 1000) (ok : ∀ c ∈ cs, clOk c) (h0 : 0 < cs.length) (h8 : cs.length ≤ 8) : EvCh K a (ClX.tCMeth a.f_Change (fun vs H Q E => spCRead K a (vs ++ []) H Q E) E (tC (.ref a.f_Change)) (tCons te tNil)) σ H cs := fun H1 e Q k =>
  ⟨rfl, h H1 e _ fun H2 e2 => ⟨s, cs, rfl, hs, hl, ok, h0, h8, fun p H3 hp e3 c => k p H3 (fresh_back e2 hp) (e2.trans e3) c⟩⟩
theorem ev_textL (h : EvL te σ H xs) (tv : TV H xs cs) (ok : ∀ c ∈ cs, clOk c) (most : cs.length ≤ 8) : Ev (tCall (spChT K) [] E (tCons te tNil)) σ H (.str (Txt.join "," (cs.map clText))) := fun H1 e Q k =>
  h H1 e _ fun l H2 hl e2 h2 => ⟨l, cs, rfl, ((tv.mono e).mono e2).told h2, ok, by omega, fun H3 e3 => k H3 (e2.trans e3)⟩
theorem em_chOI (hf : Ev tf σ H (.ref p)) (hm : Ev tm σ H (.int (n : Nat))) (hg : Ev tg σ H (.str form)) (ch : ChangeAt K a H p cs) (ok : ∀ c ∈ cs, clOk c) (fm : form ∈ forms) (hn : n < 512) :
    EvM a (StX.tCallO X a.f_Change (fun vs H Q E => spChCall K a (vs ++ []) H Q E) E tf (tCons tm (tCons tg tNil))) σ H (foldN cs n form) := fun H1 e Q k =>
  hf H1 e _ fun H2 e2 => ⟨p, rfl, hm H2 (e.trans e2) _ fun H3 e3 => hg H3 ((e.trans e2).trans e3) _ fun H4 e4 => by
    have c4 := ch.mono (((e.trans e2).trans e3).trans e4)
    obtain ⟨dx, ct, tt, ps, ho, _⟩ := id c4
    exact ⟨.inr ⟨dx, _, ho⟩, p, .int (n : Nat), n, cs, form, rfl, c4, ok, fm, hn, .inl rfl, fun q' H5 hq e5 m5 => k q' H5 (fresh_back ((e2.trans e3).trans e4) hq) (((e2.trans e3).trans e4).trans e5) m5⟩⟩
theorem ev_eqMV (h1 : EvM a ta σ H n) (h2 : Ev tb σ H (.ref c)) (hm : ModeAt a H c n) : Ev (tOp (rOwnI K a.f_Mode (fun vs H Q E => spMEq a (vs ++ []) H Q E) E) ta tb) σ H (.bl true) := fun H1 e Q k =>
  h1 H1 e _ fun b H2 _ e2 m1 => h2 H2 (e.trans e2) _ fun H3 e3 => rv_ownI (K := K) (m1.mono e3) (hm.mono ((e.trans e2).trans e3)) H3 (Ex.refl _) _ fun H4 e4 => by
    rw [decide_eq_true rfl]
    exact k H4 ((e2.trans e3).trans e4)
theorem ev_eqMM (h1 : EvM a ta σ H n) (h2 : EvM a tb σ H n) : Ev (tOp (rOwnI K a.f_Mode (fun vs H Q E => spMEq a (vs ++ []) H Q E) E) ta tb) σ H (.bl true) := fun H1 e Q k =>
  h1 H1 e _ fun b H2 _ e2 m1 => h2 H2 (e.trans e2) _ fun c H3 _ e3 m2 => rv_ownI (K := K) (m1.mono e3) m2 H3 (Ex.refl _) _ fun H4 e4 => by
    rw [decide_eq_true rfl]
    exact k H4 ((e2.trans e3).trans e4)
theorem em_is (h : EvM a te σ H n) (e : n = m) : EvM a te σ H m := e ▸ h
theorem rv_sameCh (h1 : ChangeAt K a H p cs) (h2 : ChangeAt K a H q cs) : RV (rEqG (DIns a.f_Change (SameCh K a))) (.ref p) (.ref q) H (.bl true) := by
  obtain ⟨dx, _, _, _, o1, _⟩ := id h1
  obtain ⟨dy, _, _, _, o2, _⟩ := id h2
  exact rv_eqG (mon_ins (R := SameCh K a) fun _ _ _ _ e h => sameCh_mono e h) ⟨p, q, dx, dy, _, _, rfl, rfl, o1, o2, cs, h1, h2⟩
theorem ev_sameV (h1 : Ev ta σ H (.ref p)) (c1 : ChangeAt K a H p cs) (h2 : EvCh K a tb σ H ds) (e : cs = ds) : Ev (tOp (rEqG (DIns a.f_Change (SameCh K a))) ta tb) σ H (.bl true) := fun H1 e1 Q k =>
  h1 H1 e1 _ fun H2 e2 => h2 H2 (e1.trans e2) _ fun q H3 _ e3 c2 => rv_sameCh (K := K) (c1.mono ((e1.trans e2).trans e3)) (e ▸ c2) H3 (Ex.refl _) _ fun H4 e4 => k H4 ((e2.trans e3).trans e4)
theorem q_par2 {i j : Nat} (h1 : EvCh K a ta σ H cs) (h2 : EvCh K a tb σ H ds) (k : ∀ b c H1, Ex H H1 → ChangeAt K a H1 b cs → ChangeAt K a H1 c ds → tz D ((σ.set i (some (.ref b))).set j (some (.ref c))) H1) : tSeq (tPar i j (tCons ta (tCons tb tNil))) tz D σ H :=
  h1 H (Ex.refl H) _ fun b H1 _ e1 c1 => h2 H1 e1 _ fun c H2 _ e2 c2 => ⟨_, _, rfl, k b c H2 (e1.trans e2) (c1.mono e2) c2⟩
end
section
variable {P : Program} {w : World} {K : PySem.W.Frag} {mg : Str → Option Value} {base : Heap} {a : Ads}
theorem ok_joined (T : Txt w K mg a) : FnOk P w K mg base CX0 9 a.f__law_joined_right a.d__law_joined_right ["_law_pen_here", "_law_told"] spJoin := by
  have G__law_draw : FnOk P w K mg base CX0 8 _ _ _ _ := (ok_draw T).mono (by decide)
  have G__law_pick : FnOk P w K mg base CX0 8 _ _ _ _ := (ok_pick T).mono (by decide)
  have G__law_change : FnOk P w K mg base CX0 8 _ _ _ _ := (ok_lchange T).mono (by decide)
  have G__law_change_text : FnOk P w K mg base CX0 8 _ _ _ _ := (ok_change_text T).mono (by decide)
  have G_Change_read : FnOk P w K mg base CX0 8 _ _ _ _ := ok_Change_read T
  have G_ChangeD_mulD : FnOk P w K mg base CX0 8 _ _ _ _ := ok_mul T
  have G_ChangeD_callD : FnOk P w K mg base CX0 8 _ _ _ _ := (ok_Change_call T).mono (by decide)
  have G_Change_eq : FnOk P w K mg base CX0 8 _ _ _ _ := (ok_Change_eq T).mono (by decide)
  have G_Mode_eq : FnOk P w K mg base CX0 8 _ _ _ _ := (ok_Mode_eq T).mono (by decide)
  refine T.fn__law_joined_right.ok sc__law_joined_right (fun vs H Q E h => ?_) (fun cdv A outer s H vs Q E hr h => ?_)
  · obtain ⟨_, _, _, _, rfl, _⟩ := h
    rfl
  · obtain ⟨p, l, n, cs, rfl, pen, hn, told, lp, ok, pos, most, k⟩ := h
    have hrc : Room 8 _ := hr
    refine ⟨_, (pss_cons (ps_par (i := 2) (j := 3) rfl sc__law_joined_right.nd rfl rfl (by decide) rfl rfl (pa_cons (ClX.pe_cmeth (pe_glob (v := .ref a.f_Change) rfl T.mg_Change rfl) T.r_Change T.m_Change_read (G_Change_read.raw (bd_Change_read T) .nil) hrc pass0 (pa_cons (pe_call G__law_change_text hrc rfl T.mg__law_change_text T.fn__law_change_text.kp (bd__law_change_text T) .nil pass0 (pa_cons (pe_slice sl_list (pv 1) po_none (po_some pe_int)) pa_nil)) pa_nil)) (pa_cons (ClX.pe_cmeth (pe_glob (v := .ref a.f_Change) rfl T.mg_Change rfl) T.r_Change T.m_Change_read (G_Change_read.raw (bd_Change_read T) .nil) hrc pass0 (pa_cons (pe_call G__law_pick hrc rfl T.mg__law_pick T.fn__law_pick.kp (bd__law_pick T) .nil pass0 (pa_cons (pv 0) (pa_cons (pe_lst (pa_cons pe_str (pa_cons pe_str (pa_cons pe_str (pa_cons pe_str pa_nil))))) pa_nil))) pa_nil)) pa_nil)) (by rfl))
    (pss_cons (ps_set (i := 4) sc__law_joined_right.nd rfl (Or.inl rfl) (ClX.pe_cmeth (pe_glob (v := .ref a.f_Change) rfl T.mg_Change rfl) T.r_Change T.m_Change_read (G_Change_read.raw (bd_Change_read T) .nil) hrc pass0 (pa_cons (pe_call G__law_change_text hrc rfl T.mg__law_change_text T.fn__law_change_text.kp (bd__law_change_text T) .nil pass0 (pa_cons (pe_call G__law_change hrc rfl T.mg__law_change T.fn__law_change.kp (bd__law_change T) .nil pass0 (pa_cons (pv 0) (pa_cons pe_int pa_nil))) pa_nil)) pa_nil)))
    (pss_cons (ps_par (i := 5) (j := 6) rfl sc__law_joined_right.nd rfl rfl (by decide) rfl rfl (pa_cons (pe_op (op_ownBin (op := .Mult) T.sf_Change T.m_ChangeD_mulD.at_ T.m_ChangeD_mulD.fn (G_ChangeD_mulD.raw (bd_ChangeD_mulD T) .nil) hrc pass0) (pv 2) (pv 4)) (pa_cons (pe_op (op_ownBin (op := .Mult) T.sf_Change T.m_ChangeD_mulD.at_ T.m_ChangeD_mulD.fn (G_ChangeD_mulD.raw (bd_ChangeD_mulD T) .nil) hrc pass0) (pe_op (op_ownBin (op := .Mult) T.sf_Change T.m_ChangeD_mulD.at_ T.m_ChangeD_mulD.fn (G_ChangeD_mulD.raw (bd_ChangeD_mulD T) .nil) hrc pass0) (pv 2) (pv 4)) (pv 3)) pa_nil)) (by rfl))
    (pss_cons (ps_if (pt_not (pt_cmpR (op_eqG (rcG_ins (R := SameCh K a) G_Change_eq T.m_ChangeD_eqD.at_ T.m_ChangeD_eqD.fn (bd_ChangeD_eqD T) pass0) hrc) (pv 6) (pe_op (op_ownBin (op := .Mult) T.sf_Change T.m_ChangeD_mulD.at_ T.m_ChangeD_mulD.fn (G_ChangeD_mulD.raw (bd_ChangeD_mulD T) .nil) hrc pass0) (pv 2) (pe_op (op_ownBin (op := .Mult) T.sf_Change T.m_ChangeD_mulD.at_ T.m_ChangeD_mulD.fn (G_ChangeD_mulD.raw (bd_ChangeD_mulD T) .nil) hrc pass0) (pv 4) (pv 3))) (nomark _))) (pss_one (ps_ret pe_bl)) pss_nil)
    (pss_cons (ps_for PassesOwn.never rfl (pi_range1 rfl T.b_range (pa_cons pe_int pa_nil)) (pg_name (i := 7) sc__law_joined_right.nd rfl (Or.inl rfl)) (pss_cons (ps_par (i := 8) (j := 9) rfl sc__law_joined_right.nd rfl rfl (by decide) rfl rfl (pa_cons (pe_call G__law_draw hrc rfl T.mg__law_draw T.fn__law_draw.kp (bd__law_draw T) .nil pass0 (pa_cons (pv 0) (pa_cons pe_int pa_nil))) (pa_cons (pe_call G__law_pick hrc rfl T.mg__law_pick T.fn__law_pick.kp (bd__law_pick T) .nil pass0 (pa_cons (pv 0) (pa_cons (pe_lst (pa_cons pe_str (pa_cons pe_str pa_nil))) pa_nil))) pa_nil)) (by rfl))
    (pss_cons (ps_set (i := 10) sc__law_joined_right.nd rfl (Or.inl rfl) (StX.pe_callO (pv 4) T.o_Change (G_ChangeD_callD.raw (bd_ChangeD_callD T) .nil) hrc pass0 (pa_cons (StX.pe_callO (pv 2) T.o_Change (G_ChangeD_callD.raw (bd_ChangeD_callD T) .nil) hrc pass0 (pa_cons (pv 8) (pa_cons (pv 9) pa_nil))) (pa_cons (pv 9) pa_nil))))
    (pss_one (ps_if (PW.pt (pw_or (pt_not (pt_cmpR (op_ownI (by intro _ _; rfl) T.m_ModeD_eqD.at_ T.m_ModeD_eqD.fn T.nf_Mode (G_Mode_eq.raw (bd_ModeD_eqD T) .nil) hrc pass0) (StX.pe_callO (pv 5) T.o_Change (G_ChangeD_callD.raw (bd_ChangeD_callD T) .nil) hrc pass0 (pa_cons (pv 8) (pa_cons (pv 9) pa_nil))) (pv 10) (nomark _))) (pw_or1 (pt_not (pt_cmpR (op_ownI (by intro _ _; rfl) T.m_ModeD_eqD.at_ T.m_ModeD_eqD.fn T.nf_Mode (G_Mode_eq.raw (bd_ModeD_eqD T) .nil) hrc pass0) (StX.pe_callO (pv 6) T.o_Change (G_ChangeD_callD.raw (bd_ChangeD_callD T) .nil) hrc pass0 (pa_cons (pv 8) (pa_cons (pv 9) pa_nil))) (StX.pe_callO (pv 3) T.o_Change (G_ChangeD_callD.raw (bd_ChangeD_callD T) .nil) hrc pass0 (pa_cons (pv 10) (pa_cons (pv 9) pa_nil))) (nomark _)))))) (pss_one (ps_ret pe_bl)) pss_nil)))))
    (pss_one (ps_ret pe_bl))))))), ?_⟩
    obtain ⟨X, hX, tv⟩ := told.tv
    have c4 : cs.take 4 = cs := List.take_of_length_le most
    refine ech_readE (K := K) (a := a) (cs := cs) (ev_textL (K := K) (xs := X.take 4) (el_hi (k := 4) (ev_var rfl) ev_c hX) (c4 ▸ tv.take 4) ok (by omega)) (split_text ok pos) (text_len ok most) ok pos (by omega) H (Ex.refl H) _ fun f1 H1 hf1 e1 ch1 => ?_
    obtain ⟨_, _, _, _, zs, _⟩ := id pen
    refine ⟨rfl, .ref p, rfl, el_lst (vs := [.str "u+X", .str "g=u", .str "a-w", .str "o=g,u-x"]) (ea_cons ev_c (ea_cons ev_c (ea_cons ev_c (ea_cons ev_c ea_nil)))) (by show 4 ≤ 100000; decide) H1 (Ex.refl _) _ fun s4 H2 hs4 e2 h2 => ⟨p, s4, _, n, rfl, pen.keep (e1.trans e2), by omega, h2, (fun z => by rw [z, e1 _ _ zs] at hs4; cases hs4), by decide, by decide, fun x H3 hx e3 pen3 => ?_⟩⟩
    obtain ⟨st, es, rfl, sp1, sp2, oke, pe, le⟩ := last_at hx
    refine ⟨st, es, rfl, sp1, sp2, oke, pe, by omega, fun la H4 hla e4 ch4 => ⟨_, _, rfl, ?_⟩⟩
    have z2 := (e1.trans e2) _ _ zs
    have ch1b := ((ch1.mono e2).grow e3.ex z2).mono e4
    have e04 : ExP p H H4 := ((ExP.of (e1.trans e2)).trans e3).trans (ExP.of e4)
    have pen4 := pen3.keep e4
    obtain ⟨_, _, _, _, z4, _⟩ := id pen4
    refine ⟨rfl, .ref p, rfl, p, n + 1, 2, rfl, pen4, by omega, by decide, by decide, fun l' ds H5 pos' most' ok' lp' e5 pen5 told5 => ⟨l', ds, rfl, told5, ok', by omega, fun H6 e6 => ⟨_, ds, rfl, split_text ok' pos', text_len ok' (by omega), ok', pos', by omega, fun mi H7 _ e7 ch7 => ?_⟩⟩⟩
    have e47 : ExP p H4 H7 := e5.trans (ExP.of (e6.trans e7))
    have chf := ch1b.grow e47.ex z4
    have chl := ch4.grow e47.ex z4
    have pen7 := pen5.keep (e6.trans e7)
    have okfm : ∀ c ∈ cs ++ ds, clOk c := fun c m => (List.mem_append.mp m).elim (ok c) (ok' c)
    have okml : ∀ c ∈ ds ++ es, clOk c := fun c m => (List.mem_append.mp m).elim (ok' c) (oke c)
    have okall : ∀ c ∈ cs ++ ds ++ es, clOk c := fun c m => (List.mem_append.mp m).elim (okfm c) (oke c)
    refine q_par2 (K := K) (a := a) (ech_mul (K := K) (a := a) (eo_var rfl chf) (eo_var rfl ch7) ok ok' pos pos' (by omega)) (ech_mul (K := K) (a := a) (EvCh.old (ech_mul (K := K) (a := a) (eo_var rfl chf) (eo_var rfl ch7) ok ok' pos pos' (by omega))) (eo_var rfl chl) okfm oke (by rw [List.length_append]; omega) pe (by rw [List.length_append]; omega)) fun bo wh H8 e8 chb chw => ?_
    have chf8 := chf.mono e8
    have chl8 := chl.mono e8
    have chm8 := ch7.mono e8
    refine q_when (b := false) (et_not (a := true) (et_test (ev_sameV (K := K) (a := a) (ev_var rfl) chw (ech_mul (K := K) (a := a) (eo_var rfl chf8) (EvCh.old (ech_mul (K := K) (a := a) (eo_var rfl chm8) (eo_var rfl chl8) ok' oke pos' pe (by omega))) ok okml pos (by rw [List.length_append]; omega) (by rw [List.length_append]; omega)) (List.append_assoc _ _ _)))) (fun z => nomatch z) fun _ H9 e9 => ?_
    have pen9 := (pen7.keep e8).keep e9
    refine q_forR1 (n := 100) (ea_cons ev_c ea_nil) (by decide) (fun i σ' H' => ∃ o7 o8 o9 o10, σ' = [some (.ref p), some (.ref l), some (.ref f1), some (.ref la), some (.ref mi), some (.ref bo), some (.ref wh), o7, o8, o9, o10] ∧ PenAt H' p (n + 14 + 2 * i) ∧ ExP p H H' ∧ ChangeAt K a H' f1 cs ∧ ChangeAt K a H' la es ∧ ChangeAt K a H' mi ds ∧ ChangeAt K a H' bo (cs ++ ds) ∧ ChangeAt K a H' wh (cs ++ ds ++ es)) (fun H10 e10 => ⟨_, _, _, _, rfl, (pen9.keep e10).le (by omega), ((e04.trans e47).trans (ExP.of (e8.trans e9))).trans (ExP.of e10), (chf8.mono e9).mono e10, (chl8.mono e9).mono e10, (chm8.mono e9).mono e10, (chb.mono e9).mono e10, (chw.mono e9).mono e10⟩) (fun i σ' H10 hi inv => ?_) (fun σ' H10 inv => ?_)
    · obtain ⟨o7, o8, o9, o10, rfl, pen10, e010, cf, cl, cm, cb, cw⟩ := inv
      obtain ⟨_, _, _, _, y0, _⟩ := id pen10
      refine ⟨.ref p, rfl, p, n + 14 + 2 * i, 512, rfl, pen10, by omega, by decide, by decide, fun num H11 hnum e11 pen11 => ?_⟩
      obtain ⟨_, _, _, _, y1, _⟩ := id pen11
      refine ⟨.ref p, rfl, el_lst (vs := [.str "file", .str "folder"]) (ea_cons ev_c (ea_cons ev_c ea_nil)) (by show 2 ≤ 100000; decide) H11 (Ex.refl _) _ fun s2 H12 hs2 e12 h12 => ⟨p, s2, _, n + 14 + 2 * i + 1, rfl, pen11.keep e12, by omega, h12, (fun z => by rw [z, y1] at hs2; cases hs2), by decide, by decide, fun x H13 hx e13 pen13 => ⟨_, _, rfl, ?_⟩⟩⟩
      obtain ⟨form, hf, rfl⟩ := form_mem hx
      have y2 := e12 _ _ y1
      have up : ∀ {q : Addr} {zz : List Cl}, ChangeAt K a H10 q zz → ChangeAt K a H13 q zz := fun c => (((c.grow e11.ex y0).mono e12).grow e13.ex y2)
      have e1013 : ExP p H10 H13 := (e11.trans (ExP.of e12)).trans e13
      have cf := up cf
      have cl := up cl
      have cm := up cm
      have cb := up cb
      have cw := up cw
      have n1 := fold_lt cs (n := num) (form := form) hnum
      refine q_asgM (a := a) (n := foldN ds (foldN cs num form) form) (em_chOM (ev_var rfl) (em_chOI (ev_var rfl) (ev_var rfl) (ev_var rfl) cf ok hf hnum) (ev_var rfl) cm ok' hf n1) fun m H14 e14 hm => ?_
      have n2 := fold_lt ds (n := foldN cs num form) (form := form) n1
      refine s_when (b := false) (et_is (et_or (et_not (a := true) (et_test (ev_eqMV (K := K) (em_is (em_chOI (ev_var rfl) (ev_var rfl) (ev_var rfl) (cb.mono e14) okfm hf hnum) (foldN_app cs ds num form)) (ev_var rfl) hm))) fun _ => et_not (a := true) (et_test (ev_eqMM (K := K) (em_is (em_chOI (ev_var rfl) (ev_var rfl) (ev_var rfl) (cw.mono e14) okall hf hnum) (by rw [foldN_app, foldN_app])) (em_chOV (ev_var rfl) (ev_var rfl) hm (ev_var rfl) (cl.mono e14) oke hf n2)))) rfl) (fun z => nomatch z) fun _ H15 e15 => ?_
      have ee := e14.trans e15
      exact ⟨_, _, _, _, rfl, (pen13.keep ee).le (by omega), (e010.trans e1013).trans (ExP.of ee), cf.mono ee, cl.mono ee, cm.mono ee, cb.mono ee, cw.mono ee⟩
    · obtain ⟨o7, o8, o9, o10, rfl, pen10, e010, _⟩ := inv
      exact s_ret (v := .bl true) ev_c fun H11 e11 => k H11 (e010.trans (ExP.of e11)) ((pen10.keep e11).le (by show n + 14 + 2 * 100 ≤ n + 250; omega))
end
end KY
set_option Elab.async false
set_option linter.all false
set_option maxRecDepth 100000
set_option maxHeartbeats 4000000
namespace KY
open PySem PySem.Spec PyProof.Rows L2 Evl
local macro_rules | `(tactic| walk_at "ev") => `(tactic| repeat' (first | exact ev_c | exact ev_var rfl | exact rv_I0 | refine' rv_I ?_ | refine' rv_eq ?_ | refine' rv_ne ?_ | refine' ev_op ?_ ?_ ?_ | exact ea_nil | refine' ea_cons ?_ ?_ | refine' et_test ?_ | refine' et_B ?_ | refine' et_not ?_ | refine' ev_notV ?_))

open PySem
/-! ### calls by keywords alone; what the law compares -/
section
variable {X : Cx} {CX : CXT} {k : Nat} {f : Addr} {sp : Sp} {E : XK} {x : Str} {p pos : Pos} {tk : TA} {fd : FuncData} {ps ks : List Str} {kws : List Keyword} {gg : List Value → List Value → List Value} {gV : List V → List V → List V}
def tCallK0 (sp : Sp) (gV : List V → List V → List V) (E : XK) (tk : TA) : TE := fun σ H Q => tk σ H fun zs H1 => sp (gV [] zs) H1 Q E
theorem pe_callK0 (F : FnOk X.prog X.w X.K X.mg X.base CX k f fd ps sp) (room : Room k X.A) (hg : Gl X x) (hm : X.mg x = some (.ref f)) (keep : PySem.W.keepIn X.K (.ref f) = true) (hb : KBinds X.K fd ps ks gg gV) (hx : Passes CX X E)
    (hkw : PK X kws tk) (named : (backToKw pos (keywordEach kws X.env)).all (·.1.isSome) = true := by rfl) (names : (backToKw pos (keywordEach kws X.env)).filterMap (·.1) = ks := by rfl)
    (hdb : (x == ("__debug__" : Str)) = false := by decide) (plain : ((backTo pos (starEach [] X.env)).any (·.1) || (backToKw pos (keywordEach kws X.env)).any (·.1.isNone)) = false := by rfl) :
    PE X (.Call (.Name x p) [] kws pos) (tCallK0 sp gV E tk) where
  run := fun pins s σ H Q I want => by
    refine wpAny_Call_Name_kw (ld_glob I hg hm ?_ hdb)
    refine PySem.W.callWith_KW0 (first := []) (h₀ := X.base) I.ok.mod.kin keep named (thn (hkw.run pos pins s σ H _ I want) fun ws s2 ⟨zs, H2, I2, rz, go⟩ => ⟨I2.kIn, ?_⟩) plain
    rw [names]
    exact run_fnk (us := []) (vs := []) F room hb hx I2 .nil rz go
end
def gP1 (us ws : List V) : List V := match us, ws with | [], [o, n] => [n, o] | _, _ => []
def gP1v (us ws : List Value) : List Value := match us, ws with | [], [o, n] => [n, o] | _, _ => []
def gC1 (us ws : List V) : List V := match us, ws with | [x], [f] => [x, f] | _, _ => []
def gC1v (us ws : List Value) : List Value := match us, ws with | [x], [f] => [x, f] | _, _ => []
theorem kb_parting {w : World} {K : PySem.W.Frag} {mg : Str → Option Value} {a : Ads} (T : Txt w K mg a) : KBinds K a.d_parting ["one", "other"] ["other", "one"] gP1v gP1 where
  to := fun s us ws X hl => by
    obtain ⟨oc, od, kV, doc, pm, an, cdv, ct, osl, e, lk, hcd⟩ := T.fn_parting.ex
    rw [e]
    match us, ws, hl with
    | [], [o, n], _ => exact .of_eq rfl
  rel := fun {vs us zs ws} r1 r2 => by
    cases r1 with
    | cons _ _ => exact .nil
    | nil =>
      cases r2 with
      | nil => exact .nil
      | cons h2 t2 =>
        cases t2 with
        | nil => exact .nil
        | cons h3 t3 =>
          cases t3 with
          | nil => exact .cons h3 (.cons h2 .nil)
          | cons _ _ => exact .nil
theorem kb_like {w : World} {K : PySem.W.Frag} {mg : Str → Option Value} {a : Ads} (T : Txt w K mg a) : KBinds K a.d_Change_like ["self", "other"] ["other"] gC1v gC1 where
  to := fun s us ws X hl => by
    obtain ⟨oc, od, kV, doc, pm, an, cdv, ct, osl, e, lk, hcd⟩ := T.fn_Change_like.ex
    rw [e]
    match us, ws, hl with
    | [x], [f], _ => exact .of_eq rfl
  rel := fun {vs us zs ws} r1 r2 => by
    cases r1 with
    | nil => exact .nil
    | cons h1 t1 =>
      cases t1 with
      | cons _ _ => exact .nil
      | nil =>
        cases r2 with
        | nil => exact .nil
        | cons h2 t2 =>
          cases t2 with
          | nil => exact .cons h1 (.cons h2 .nil)
          | cons _ _ => exact .nil
/-- what a parting shows -/
def dueD : Option (Str × Nat) → PyData
  | none => .none
  | some (form, n) => .tuple [.str form, .int (uni n : Nat)]
def dueOk (r : Option (Str × Nat)) : Prop := match r with
  | none => True
  | some (form, n) => form ∈ forms ∧ n < 8
theorem apart_ok (cs ds : List Cl) : dueOk (apart cs ds) := by
  cases q : apart cs ds with
  | none => trivial
  | some r =>
    obtain ⟨form, n⟩ := r
    obtain ⟨h1, h2, _⟩ := part_at q
    exact ⟨h2, h1⟩
def shows (d : PyData) : Prop := d.showable = true ∧ d.hasDict = false ∧ d.depth ≤ 60 ∧ d.shown.length ≤ sizeLine
theorem due_shows {r : Option (Str × Nat)} (h : dueOk r) : shows (.list [dueD r, dueD r]) := by
  have hf : (forms.all fun form => (List.range 8).all fun n => decide ((PyData.list [dueD (some (form, n)), dueD (some (form, n))]).showable = true ∧ (PyData.list [dueD (some (form, n)), dueD (some (form, n))]).hasDict = false ∧ (PyData.list [dueD (some (form, n)), dueD (some (form, n))]).depth ≤ 60 ∧ (PyData.list [dueD (some (form, n)), dueD (some (form, n))]).shown.length ≤ 1000)) = true := by decide +kernel
  have hn : (PyData.list [dueD none, dueD none]).showable = true ∧ (PyData.list [dueD none, dueD none]).hasDict = false ∧ (PyData.list [dueD none, dueD none]).depth ≤ 60 ∧ (PyData.list [dueD none, dueD none]).shown.length ≤ 1000 := by decide +kernel
  have lt : (1000 : Nat) ≤ sizeLine := by decide
  match r, h with
  | none, _ => exact ⟨hn.1, hn.2.1, hn.2.2.1, Nat.le_trans hn.2.2.2 lt⟩
  | some (form, n), h =>
    have := of_decide_eq_true (all_nat (List.all_eq_true.mp hf form h.1) n h.2)
    exact ⟨this.1, this.2.1, this.2.2.1, Nat.le_trans this.2.2.2 lt⟩
theorem truth_shows (b : Bool) : shows (.list [.bool b, .bool b, .bool b]) := by
  have h : ∀ b : Bool, (PyData.list [.bool b, .bool b, .bool b]).showable = true ∧ (PyData.list [.bool b, .bool b, .bool b]).hasDict = false ∧ (PyData.list [.bool b, .bool b, .bool b]).depth ≤ 60 ∧ (PyData.list [.bool b, .bool b, .bool b]).shown.length ≤ 1000 := by decide +kernel
  exact ⟨(h b).1, (h b).2.1, (h b).2.2.1, Nat.le_trans (h b).2.2.2 (by decide)⟩
def SameM (a : Ads) (p q : Addr) (H : Hp) : Prop := ∃ n : Nat, ModeAt a H p n ∧ ModeAt a H q n
theorem sameM_mono {a : Ads} {p q : Addr} {H H' : Hp} (e : Ext H H') (h : SameM a p q H) : SameM a p q H' := by
  obtain ⟨n, h1, h2⟩ := h
  exact ⟨n, h1.mono e, h2.mono e⟩
/-- a text, or a mode -/
def DTM (a : Ads) : Eqv := fun x y H => DFlat x y H ∨ DIns a.f_Mode (SameM a) x y H
theorem mon_tm (a : Ads) : Mon (DTM a) := fun x y H H' e d => d.elim (fun z => .inl (mon_flat x y H H' e z)) fun z => .inr (mon_ins (R := SameM a) (fun _ _ _ _ e h => sameM_mono e h) x y H H' e z)
section
variable {X : Cx} {K : PySem.W.Frag} {a : Ads} {σ : L2.St} {H H' : Hp} {ta tb te tf tm tn tg : TE} {E : XK} {cs ds : List Cl} {p q c l : Addr} {form : Str} {n m : Nat} {xs : List V} {D : Ends} {tz : TS} {d : PyData} {v : V}
theorem DueV.dp (h : DueV H v (apart cs ds)) : Dp K H v (dueD (apart cs ds)) := by
  cases q : apart cs ds with
  | none =>
    rw [q] at h
    have h : v = .non := h
    rw [h]
    exact .non
  | some r =>
    obtain ⟨form, n⟩ := r
    rw [q] at h
    obtain ⟨t, rfl, h2⟩ := h
    exact .tup (st_of h2) (.cons (.str _) (.cons (.int _) .nil))
theorem ev_reprV (h : Ev te σ H (.ref p)) (hd : Dp K H (.ref p) d) (mono : ∀ H', Ex H H' → Dp K H' (.ref p) d) (s : shows d) : Ev (tCB (rRepr K) (tCons te tNil)) σ H (.str d.shown) := fun H1 e Q k => h H1 e _ fun H2 e2 => by
  obtain ⟨s1, s2, s3, s4⟩ := s
  exact ⟨p, d, rfl, mono H2 (e.trans e2), s1, s2, s3, s4, k H2 e2⟩
theorem ev_reprL (h : EvL te σ H xs) (hd : ∀ H', Ex H H' → ∀ b, H' b = some (.lst xs) → Dp K H' (.ref b) d) (s : shows d) : Ev (tCB (rRepr K) (tCons te tNil)) σ H (.str d.shown) := fun H1 e Q k => h H1 e _ fun b H2 _ e2 h2 => by
  obtain ⟨s1, s2, s3, s4⟩ := s
  exact ⟨b, d, rfl, hd H2 (e.trans e2) b h2, s1, s2, s3, s4, k H2 e2⟩
theorem el_rep3 (h : EvL te σ H [v]) : EvL (tOp rRep te (tC (.int 3))) σ H [v, v, v] := fun H1 e Q k => h H1 e _ fun b H2 _ e2 h2 => ⟨b, 3, [v], rfl, rfl, h2, by decide, by decide, by show 1 * 3 ≤ sizeLine; decide, fun p hp => k p _ (fresh_back e2 hp) (e2.trans (Ex.new hp)) upd_same⟩
theorem lookup_like (ct tt : Addr) : (putF "_tables" (V.ref tt) (putF "_clauses" (V.ref ct) [])).lookup ("like" : Str) = none := by
  rw [lookup_putF, if_neg (by decide +kernel), lookup_putF, if_neg (by decide +kernel)]
  rfl
theorem ev_like (hp : Ev ta σ H (.ref p)) (hq : Ev tb σ H (.ref q)) (c1 : ChangeAt K a H p cs) (c2 : ChangeAt K a H q ds) (okc : ∀ c ∈ cs, clOk c) (okd : ∀ c ∈ ds, clOk c) : Ev (tMeth a.f_Change "like" (spLike K a) [] E ta (tCons tb tNil)) σ H (.bl (decide (apart cs ds = none))) := fun H1 e Q k =>
  hp H1 e _ fun H2 e2 => by
    have d1 := c1.mono (e.trans e2)
    obtain ⟨dx, ct, tt, ps, ho, _⟩ := id d1
    exact ⟨p, dx, _, rfl, ho, lookup_like ct tt, hq H2 (e.trans e2) _ fun H3 e3 => ⟨p, q, cs, ds, rfl, d1.mono e3, (c2.mono (e.trans e2)).mono e3, okc, okd, fun H4 e4 => k H4 ((e2.trans e3).trans e4)⟩⟩
theorem ev_likeK (hp : Ev ta σ H (.ref p)) (hq : Ev tb σ H (.ref q)) (c1 : ChangeAt K a H p cs) (c2 : ChangeAt K a H q ds) (okc : ∀ c ∈ cs, clOk c) (okd : ∀ c ∈ ds, clOk c) : Ev (tMethK a.f_Change "like" (spLike K a) gC1 E ta (tCons tb tNil)) σ H (.bl (decide (apart cs ds = none))) := fun H1 e Q k =>
  hp H1 e _ fun H2 e2 => by
    have d1 := c1.mono (e.trans e2)
    obtain ⟨dx, ct, tt, ps, ho, _⟩ := id d1
    exact ⟨p, dx, _, rfl, ho, lookup_like ct tt, hq H2 (e.trans e2) _ fun H3 e3 => ⟨p, q, cs, ds, rfl, d1.mono e3, (c2.mono (e.trans e2)).mono e3, okc, okd, fun H4 e4 => k H4 ((e2.trans e3).trans e4)⟩⟩
theorem ev_eqT {Ea Eb : XK} (hp : Ev ta σ H (.ref p)) (hq : Ev tb σ H (.ref q)) (c1 : ChangeAt K a H p cs) (c2 : ChangeAt K a H q ds) (okc : ∀ c ∈ cs, clOk c) (okd : ∀ c ∈ ds, clOk c) :
    Ev (tOp (rEqD K) (tProp a.f_Change (getSp a.f_Change "_tables") [] Ea ta) (tProp a.f_Change (getSp a.f_Change "_tables") [] Eb tb)) σ H (.bl (decide (apart cs ds = none))) := by
  obtain ⟨dx, ct, tt, ps, ho, _, _, t1⟩ := id c1
  obtain ⟨dy, cu, tu, qs, hu, _, _, t2⟩ := id c2
  exact ev_op (ev_prop hp ho (spv_get ho (chf_tables ct tt))) (ev_prop hq hu (spv_get hu (chf_tables cu tu))) (rv_eqTabs (K := K) t1 t2 okc okd)
theorem ev_textV (h : Ev te σ H (.ref l)) (told : ToldAt H l cs) (ok : ∀ c ∈ cs, clOk c) (most : cs.length ≤ 8) : Ev (tCall (spChT K) [] E (tCons te tNil)) σ H (.str (Txt.join "," (cs.map clText))) := fun H1 e Q k =>
  h H1 e _ fun H2 e2 => ⟨l, cs, rfl, told.mono (e.trans e2), ok, by omega, fun H3 e3 => k H3 (e2.trans e3)⟩
end
section
variable {P : Program} {w : World} {K : PySem.W.Frag} {mg : Str → Option Value} {base : Heap} {a : Ads}
theorem ok_Mode_eqS (T : Txt w K mg a) : FnOk P w K mg base CX0 1 a.f_ModeD_eqD a.d_ModeD_eqD ["self", "other"] (spEq (SameM a)) := by
  refine T.fn_ModeD_eqD.ok sc_ModeD_eqD (fun vs H Q E h => ?_) (fun cdv A outer s H vs Q E hr h => ?_)
  · obtain ⟨_, _, rfl, _⟩ := h
    rfl
  · obtain ⟨p, q, rfl, ⟨n, mp, mq⟩, k⟩ := h
    refine ⟨_, (pss_one (ps_ret (pe_and (pe_callB call_isi (by rfl) T.b_isinstance PyProof.Rows.boot_isinstance (pa_cons (pv 1) (pa_cons (pe_glob (v := .ref a.f_Mode) rfl T.mg_Mode rfl) pa_nil))) (pe_one (pe_cmpR op_eq (pe_fld (pv 0) rfl) (pe_fld (pv 1) rfl) (nomark _)))))), ?_⟩
    obtain ⟨dx, hp⟩ := id mp
    obtain ⟨dy, hq⟩ := id mq
    exact s_ret (v := .bl true) (ev_is (ev_andV (a := true) (ev_isi (ea_cons (ev_var rfl) (ea_cons ev_c ea_nil)) (.own _) (fun H' e' => tyx_mode T (mq.mono e')) T.is_Mode) fun _ => ev_op (ev_fld (ev_var rfl) hp T.c_Mode T.n_number_Mode (by simp [List.lookup]; rfl)) (ev_fld (ev_var rfl) hq T.c_Mode T.n_number_Mode (by simp [List.lookup]; rfl)) (rv_eq rfl)) (by simp)) fun H1 e1 => k H1 e1
end
end KY
set_option Elab.async false
set_option linter.all false
set_option maxRecDepth 100000
set_option maxHeartbeats 4000000
namespace KY
open PySem PySem.Spec PyProof.Rows L2 Evl
local macro_rules | `(tactic| walk_at "ev") => `(tactic| repeat' (first | exact ev_c | exact ev_var rfl | exact rv_I0 | refine' rv_I ?_ | refine' rv_eq ?_ | refine' rv_ne ?_ | refine' ev_op ?_ ?_ ?_ | exact ea_nil | refine' ea_cons ?_ ?_ | refine' et_test ?_ | refine' et_B ?_ | refine' et_not ?_ | refine' ev_notV ?_))

open PySem
def spLaw (K : PySem.W.Frag) : Sp := fun vs H Q _ => ∃ (s : Addr) (ns : List Int), vs = [.ref s] ∧ SqL K H s (ns.map V.int) ∧ ns.length ≤ 63 ∧ ∀ H', Q (.bl true) H'
theorem text_len8 {cs : List Cl} (ok : ∀ c ∈ cs, clOk c) (most : cs.length ≤ 8) : (Txt.join "," (cs.map clText)).length ≤ 1000 := by
  rw [TL.join_eq]
  have h := join_le "," (cs.map clText)
  have sum : ∀ ds : List Cl, (∀ c ∈ ds, clOk c) → ((ds.map clText).map (·.length)).sum ≤ ds.length * 100 := by
    intro ds
    induction ds with
    | nil => intro _; exact Nat.le_refl 0
    | cons c ds ih =>
      intro h
      have := ih fun d m => h d (List.mem_cons_of_mem _ m)
      have := clText_len (h c (List.mem_cons_self ..))
      simp only [List.map_cons, List.sum_cons, List.length_cons]
      omega
  have := sum cs ok
  rw [List.length_map, show ("," : Str).length = 1 by decide +kernel] at h
  omega

/-- two things that show a parting -/
def FoundAt (H : Hp) (f : Addr) (r : Option (Str × Nat)) : Prop := ∃ y1 y2, H f = some (.lst [y1, y2]) ∧ DueV H y1 r ∧ DueV H y2 r
theorem FoundAt.mono {H H' : Hp} {f : Addr} {r : Option (Str × Nat)} (h : FoundAt H f r) (e : Ex H H') : FoundAt H' f r := by
  obtain ⟨y1, y2, h1, h2, h3⟩ := h
  exact ⟨y1, y2, e _ _ h1, h2.mono e, h3.mono e⟩
theorem FoundAt.dp {K : PySem.W.Frag} {H : Hp} {f : Addr} {cs ds : List Cl} (h : FoundAt H f (apart cs ds)) : Dp K H (.ref f) (.list [dueD (apart cs ds), dueD (apart cs ds)]) := by
  obtain ⟨y1, y2, h1, h2, h3⟩ := h
  exact .lst (sq_of h1) (.cons h2.dp (.cons h3.dp .nil))
def lastS : List Cl := [("ugo", "-", "x")]
def lastO : List Cl := [("ugo", "-", "x"), ("ugo", "+", "X")]
def lastE : List Cl := [("ugo", "=", "")]
theorem last_facts : (∀ c ∈ lastS, clOk c) ∧ (∀ c ∈ lastO, clOk c) ∧ (∀ c ∈ lastE, clOk c) ∧ Txt.split "a-x" "," = lastS.map clText ∧ Txt.split "a-x,a+X" "," = lastO.map clText ∧ Txt.split "a=" "," = lastE.map clText ∧ apart lastS lastO = some (("folder" : Str), 0) ∧ foldN lastE 511 "file" = 0 := by
  unfold clOk
  decide +kernel
section
variable {X : Cx} {K : PySem.W.Frag} {a : Ads} {σ : L2.St} {H H' : Hp} {ta tb te tf tm tn tg : TE} {E : XK} {cs ds : List Cl} {p q c l : Addr} {form : Str} {n m : Nat} {xs : List V} {x y v : V} {d : PyData}
theorem rv_notN {x : V} : RV (fun x y H Q => y = .non ∧ Q (.bl (!decide (x = .non))) H) x .non H (.bl (!decide (x = .non))) := fun H1 _ _ k => ⟨rfl, k H1 (Ex.refl H1)⟩
theorem rv_isN {x : V} : RV (fun x y H Q => y = .non ∧ Q (.bl (decide (x = .non))) H) x .non H (.bl (decide (x = .non))) := fun H1 _ _ k => ⟨rfl, k H1 (Ex.refl H1)⟩
theorem rv_notBl {i j : Bool} : RV (fun x y H Q => ∃ a b, x = .bl a ∧ y = .bl b ∧ Q (.bl (!decide (a = b))) H) (.bl i) (.bl j) H (.bl (!decide (i = j))) := fun H1 _ _ k => ⟨i, j, rfl, rfl, k H1 (Ex.refl H1)⟩
theorem rv_nonNot (h : H p = some (.lst xs)) (f : ∀ z ∈ xs, ∃ t ys, z = .ref t ∧ H t = some (.tup ys)) : RV (rNonNotT K) .non (.ref p) H (.bl true) := fun H1 e Q k => by
  refine ⟨p, xs, rfl, rfl, sq_of (e _ _ h), fun z m => ?_, ?_⟩
  · obtain ⟨t, ys, rfl, ht⟩ := f z m
    exact .inr ⟨t, ys, rfl, st_of (e _ _ ht)⟩
  · have : xs.any isNon = false := List.any_eq_false.mpr fun z m => by
      obtain ⟨t, ys, rfl, ht⟩ := f z m
      exact fun z => Bool.noConfusion (show false = true from z)
    rw [this]
    exact k H1 (Ex.refl H1)
theorem due_none {r : Option (Str × Nat)} (h : DueV H v r) : decide (v = .non) = decide (r = none) := by
  match r, h with
  | none, h =>
    have h : v = .non := h
    rw [h]
    decide
  | some (form, n), h =>
    obtain ⟨t, rfl, _⟩ := h
    rw [decide_eq_false (fun z => nomatch z), decide_eq_false (fun z => nomatch z)]
theorem ev_lastEq (hp : Ev ta σ H (.ref p)) (hq : Ev tb σ H (.ref q)) (c1 : ChangeAt K a H p cs) (c2 : ChangeAt K a H q ds) (okc : ∀ c ∈ cs, clOk c) (okd : ∀ c ∈ ds, clOk c) (ap : apart cs ds = some (form, n)) (hm : EvM a tm σ H (uni n)) (fl : flatV (.str form) = true ∧ eqV (.str form) (.str form) = true) :
    Ev (tOp (rEqG (DTup K (DTM a))) (tCall (spParting K a) [] E (tCons ta (tCons tb tNil))) (tTup (tCons (tC (.str form)) (tCons tm tNil)))) σ H (.bl true) := fun H1 e Q k =>
  hp H1 e _ fun H2 e2 => hq H2 (e.trans e2) _ fun H3 e3 => ⟨p, q, cs, ds, rfl, (c1.mono (e.trans e2)).mono e3, (c2.mono (e.trans e2)).mono e3, okc, okd, fun v H4 e4 hv => by
    rw [ap] at hv
    obtain ⟨t, m, rfl, ht, hm4⟩ := hv
    refine hm H4 (((e.trans e2).trans e3).trans e4) _ fun m2 H5 _ e5 hm5 => ⟨by show 2 ≤ sizeLine; decide, fun b hb => ?_⟩
    have en : Ex H5 (upd H5 b (.tup [.str form, .ref m2])) := Ex.new hb
    have ma := (hm4.mono e5).mono en
    have mb := hm5.mono en
    obtain ⟨dx, ha⟩ := id ma
    obtain ⟨dy, hb2⟩ := id mb
    exact ⟨⟨t, b, [.str form, .ref m], [.str form, .ref m2], rfl, rfl, st_of (en _ _ (e5 _ _ ht)), st_of upd_same, Prs.cons (.inl ⟨fl.1, fl.1, fl.2⟩) (Prs.cons (.inr ⟨m, m2, dx, dy, _, _, rfl, rfl, ha, hb2, uni n, ma, mb⟩) Prs.nil)⟩, fun H6 e6 => k H6 (((((e2.trans e3).trans e4).trans e5).trans en).trans e6)⟩⟩
theorem em_chE (hf : EvCh K a tf σ H cs) (hm : Ev tm σ H (.int (n : Nat))) (hg : Ev tg σ H (.str form)) (ok : ∀ c ∈ cs, clOk c) (fm : form ∈ forms) (hn : n < 512) :
    EvM a (StX.tCallO X a.f_Change (fun vs H Q E => spChCall K a (vs ++ []) H Q E) E tf (tCons tm (tCons tg tNil))) σ H (foldN cs n form) := fun H1 e Q k =>
  hf H1 e _ fun p H2 _ e2 ch => ⟨p, rfl, hm H2 (e.trans e2) _ fun H3 e3 => hg H3 ((e.trans e2).trans e3) _ fun H4 e4 => by
    have c4 := ch.mono (e3.trans e4)
    obtain ⟨dx, ct, tt, ps, ho, _⟩ := id c4
    exact ⟨.inr ⟨dx, _, ho⟩, p, .int (n : Nat), n, cs, form, rfl, c4, ok, fm, hn, .inl rfl, fun q' H5 hq e5 m5 => k q' H5 (fresh_back ((e2.trans e3).trans e4) hq) (((e2.trans e3).trans e4).trans e5) m5⟩⟩
theorem q_reset {i : Nat} {b : Bool} {t : TT} {tz : TS} {D : Ends} {R : Addr → Hp → Prop} (h : EvT t σ H b) (h1 : b = true → ∀ H1, Ex H H1 → ∀ Q : VK, (∀ f H2, Ex H1 H2 → R f H2 → Q (.ref f) H2) → te σ H1 Q) (h2 : b = false → ∃ f, σ.set i (some (.ref f)) = σ ∧ ∀ H1, Ex H H1 → R f H1)
    (k : ∀ f H1, Ex H H1 → R f H1 → tz D (σ.set i (some (.ref f))) H1) : tSeq (tIfS t (tAsg te (gName i)) tNext) tz D σ H :=
  h H (Ex.refl H) _ fun H1 e => by
    cases b with
    | true => exact h1 rfl H1 e _ fun f H2 e2 r => k f H2 (e.trans e2) r
    | false =>
      obtain ⟨f, hs, r⟩ := h2 rfl
      have := k f H1 e (r H1 e)
      rw [hs] at this
      exact this
theorem comp_found {s0 s1 s2 s3 s4 s5 s6 s7 s9 s10 s11 s12 s13 : Option V} {fo : Addr} {v1 v2 : V} {Q : VK} (hfo : H fo = some (.lst [v1, v2])) (h1 : PartV a H v1 (some (form, n))) (h2 : PartV a H v2 (some (form, n)))
    (k : ∀ f H2, Ex H H2 → FoundAt H2 f (some (form, n)) → Q (.ref f) H2) :
    tLc (iList K (tVar 8)) (gTup K 2 (gCons (gName 12) (gCons (gName 13) gNil))) tYes (tTup (tCons (tVar 12) (tCons (tProp a.f_Mode (getSp a.f_Mode "_number") [] E (tVar 13)) tNil))) [12, 13] [s0, s1, s2, s3, s4, s5, s6, s7, some (.ref fo), s9, s10, s11, s12, s13] H Q := by
  refine ⟨.ref fo, rfl, fo, rfl, ⟨[v1, v2], sq_of hfo⟩, fun Dl hD => ?_⟩
  refine lc_list (K := K) (xs := [v1, v2]) (fun i H' => Ex H H' ∧ ∃ ts : List Addr, ts.length = i ∧ H' Dl = some (.lst (ts.map V.ref)) ∧ ∀ t ∈ ts, H' t = some (.tup [.str form, .int (uni n : Nat)])) ⟨Ex.new hD, [], rfl, upd_same, fun t m => nomatch m⟩ (fun i H' _ p => sq_of (p.1 _ _ hfo)) (fun i x H' hi p => ?_) (fun H' p => ?_)
  · obtain ⟨e, ts, l, hDl, all⟩ := p
    have part : PartV a H x (some (form, n)) ∧ i < 2 := by
      match i, hi with
      | 0, hi => cases hi; exact ⟨h1, by decide⟩
      | 1, hi => cases hi; exact ⟨h2, by decide⟩
      | j + 2, hi => simp at hi
    obtain ⟨⟨t, m, rfl, ht, hm⟩, hi2⟩ := part
    refine ⟨t, _, rfl, st_of (e _ _ ht), rfl, _, _, rfl, _, _, rfl, rfl, ?_⟩
    refine ⟨rfl, yes_at (iteT ?_)⟩
    obtain ⟨dm, hom⟩ := hm.mono e
    refine eu_tup (vs := [.str form, .int (uni n : Nat)]) (ea_cons (ev_var rfl) (ea_cons (ev_prop (ev_var rfl) hom (spv_get (v := .int (uni n : Nat)) hom (by simp [List.lookup]))) ea_nil)) (by show 2 ≤ 100000; decide) H' (Ex.refl _) _ fun tn H4 htn e4 h4 => ?_
    have tD : tn ≠ Dl := fun z => by rw [z, hDl] at htn; cases htn
    refine ⟨ts.map V.ref, e4 _ _ hDl, sz_lt (by rw [List.length_map]; omega), Ex.mut (e.trans e4) hD, ts ++ [tn], by rw [List.length_append, l]; rfl, by rw [upd_same, List.map_append]; rfl, fun u mu => ?_⟩
    rcases List.mem_append.mp mu with mu | mu
    · rw [upd_ne (fun z => by have q := all u mu; rw [z, hDl] at q; cases q)]
      exact e4 _ _ (all u mu)
    · rw [List.mem_singleton.mp mu, upd_ne tD]
      exact h4
  · obtain ⟨e, ts, l, hDl, all⟩ := p
    match ts, l with
    | [t1, t2], _ => exact k Dl H' e ⟨.ref t1, .ref t2, hDl, ⟨t1, rfl, all t1 (List.mem_cons_self ..)⟩, ⟨t2, rfl, all t2 (List.mem_cons_of_mem _ (List.mem_cons_self ..))⟩⟩
end
end KY
set_option Elab.async false
set_option linter.all false
set_option maxRecDepth 100000
set_option maxHeartbeats 4000000
namespace KY
open PySem PySem.Spec PyProof.Rows L2 Evl
local macro_rules | `(tactic| walk_at "ev") => `(tactic| repeat' (first | exact ev_c | exact ev_var rfl | exact rv_I0 | refine' rv_I ?_ | refine' rv_eq ?_ | refine' rv_ne ?_ | refine' ev_op ?_ ?_ ?_ | exact ea_nil | refine' ea_cons ?_ ?_ | refine' et_test ?_ | refine' et_B ?_ | refine' et_not ?_ | refine' ev_notV ?_))

open PySem
section
variable {P : Program} {w : World} {K : PySem.W.Frag} {mg : Str → Option Value} {base : Heap} {a : Ads}
theorem ok_law (T : Txt w K mg a) : RunAt P w K mg base callerA a.f_law a.d_law ["_law_script"] (spLaw K) := by
  have G__law_pen : FnOk P w K mg base CX0 9 _ _ _ _ := (ok_pen T).mono (by decide)
  have G__law_change : FnOk P w K mg base CX0 9 _ _ _ _ := (ok_lchange T).mono (by decide)
  have G__law_again : FnOk P w K mg base CX0 9 _ _ _ _ := (ok_again T).mono (by decide)
  have G__law_change_text : FnOk P w K mg base CX0 9 _ _ _ _ := (ok_change_text T).mono (by decide)
  have G__law_parting : FnOk P w K mg base CX0 9 _ _ _ _ := (ok_lparting T).mono (by decide)
  have G__law_joined_right : FnOk P w K mg base CX0 9 _ _ _ _ := ok_joined T
  have G_Change_read : FnOk P w K mg base CX0 9 _ _ _ _ := (ok_Change_read T).mono (by decide)
  have G_parting : FnOk P w K mg base CX0 9 _ _ _ _ := (ok_parting T).mono (by decide)
  have G_Change_like : FnOk P w K mg base CX0 9 _ _ _ _ := (ok_like T).mono (by decide)
  have G_ChangeD_callD : FnOk P w K mg base CX0 9 _ _ _ _ := (ok_Change_call T).mono (by decide)
  have G_Mode_eq : FnOk P w K mg base CX0 9 _ _ _ _ := (ok_Mode_eq T).mono (by decide)
  have G_Mode_eqS : FnOk P w K mg base CX0 8 _ _ _ _ := (ok_Mode_eqS T).mono (by decide)
  have G_Mode_init : FnOk P w K mg base CX0 8 _ _ _ _ := (ok_Mode_init T).mono (by decide)
  have G_Mode_number : FnOk P w K mg base CX0 8 _ _ _ _ := (ok_Mode_number T).mono (by decide)
  have G_Change_tables : FnOk P w K mg base CX0 8 _ _ _ _ := (ok_Change_tables T).mono (by decide)
  refine Fun.runAt (k := 9) T.fn_law sc_law ⟨rfl, by decide, by decide⟩ (fun vs H Q E h => ?_) (fun cdv outer s H vs Q E hr h => ?_)
  · obtain ⟨_, _, rfl, _⟩ := h
    rfl
  · obtain ⟨sc, ns, rfl, hs, hl, k⟩ := h
    have hrc : Room 9 _ := hr
    have hrm : Room (8 + 1) _ := hr
    refine ⟨_, (pss_cons (ps_set (i := 1) sc_law.nd rfl (Or.inl rfl) (pe_call G__law_pen hrc rfl T.mg__law_pen T.fn__law_pen.kp (bd__law_pen T) .nil pass0 (pa_cons (pv 0) pa_nil)))
    (pss_cons (ps_for PassesOwn.never rfl (pi_range1 rfl T.b_range (pa_cons pe_int pa_nil)) (pg_name (i := 2) sc_law.nd rfl (Or.inl rfl)) (pss_cons (ps_set (i := 3) sc_law.nd rfl (Or.inl rfl) (pe_call G__law_change hrc rfl T.mg__law_change T.fn__law_change.kp (bd__law_change T) .nil pass0 (pa_cons (pv 1) (pa_cons pe_int pa_nil))))
    (pss_cons (ps_set (i := 4) sc_law.nd rfl (Or.inl rfl) (pe_slice sl_list (pe_call G__law_again hrc rfl T.mg__law_again T.fn__law_again.kp (bd__law_again T) .nil pass0 (pa_cons (pv 1) (pa_cons (pv 3) pa_nil))) po_none (po_some pe_int)))
    (pss_cons (ps_par (i := 5) (j := 6) rfl sc_law.nd rfl rfl (by decide) rfl rfl (pa_cons (ClX.pe_cmeth (pe_glob (v := .ref a.f_Change) rfl T.mg_Change rfl) T.r_Change T.m_Change_read (G_Change_read.raw (bd_Change_read T) .nil) hrc pass0 (pa_cons (pe_call G__law_change_text hrc rfl T.mg__law_change_text T.fn__law_change_text.kp (bd__law_change_text T) .nil pass0 (pa_cons (pv 3) pa_nil)) pa_nil)) (pa_cons (ClX.pe_cmeth (pe_glob (v := .ref a.f_Change) rfl T.mg_Change rfl) T.r_Change T.m_Change_read (G_Change_read.raw (bd_Change_read T) .nil) hrc pass0 (pa_cons (pe_call G__law_change_text hrc rfl T.mg__law_change_text T.fn__law_change_text.kp (bd__law_change_text T) .nil pass0 (pa_cons (pv 4) pa_nil)) pa_nil)) pa_nil)) (by rfl))
    (pss_cons (ps_set (i := 7) sc_law.nd rfl (Or.inl rfl) (pe_call G__law_parting hrc rfl T.mg__law_parting T.fn__law_parting.kp (bd__law_parting T) .nil pass0 (pa_cons (pv 3) (pa_cons (pv 4) pa_nil))))
    (pss_cons (ps_set (i := 8) sc_law.nd rfl (Or.inl rfl) (pe_lst (pa_cons (pe_call G_parting hrc rfl T.mg_parting T.fn_parting.kp (bd_parting T) .nil pass0 (pa_cons (pv 5) (pa_cons (pv 6) pa_nil))) (pa_cons (pe_callK0 G_parting hrc rfl T.mg_parting T.fn_parting.kp (kb_parting T) pass0 (pk_cons (pv 5) (pk_cons (pv 6) pk_nil))) pa_nil))))
    (pss_cons (ps_if (PW.pt (pw_and (pt_cmpR op_notN (pv 7) pe_non (nomark _)) (pw_and1 (pt_cmpR (op_nonNotT hr.units) pe_non (pv 8) (by rfl))))) (pss_one (ps_setLc (i := 8) (own := [("_law_form", 12), ("_law_mode", 13)]) (g := gTup K 2 (gCons (gName 12) (gCons (gName 13) gNil))) rfl sc_law.nd rfl rfl (sw_true rfl rfl rfl (by decide +kernel)) (pi_list (pv 8)) (blkOk_by (own := [("_law_form", 12), ("_law_mode", 13)]) (N := n_law) (sc := defScope s_law) (by decide +kernel)) (fun _ _ _ _ _ => (pg_tup rfl (pgs_cons (pg_name (i := 12) sc_law.nd rfl (Or.inl rfl)) (pgs_cons (pg_name (i := 13) sc_law.nd rfl (Or.inl rfl)) pgs_nil)))) (fun _ _ _ _ _ => pts_nil) (fun _ _ _ _ _ => (pe_tup (pa_cons (pv 12) (pa_cons (pe_prop (pv 13) T.c_Mode T.p_Mode_number (G_Mode_number) hrm (bd_Mode_number T) .nil pass0 rfl) pa_nil)))))) pss_nil)
    (pss_cons (ps_if (pt_cmpR op_ne (pe_callB (call_reprD rfl hr.units) (by rfl) T.b_repr (by decide +kernel) (pa_cons (pv 8) pa_nil)) (pe_callB (call_reprD rfl hr.units) (by rfl) T.b_repr (by decide +kernel) (pa_cons (pe_lst (pa_cons (pv 7) (pa_cons (pv 7) pa_nil))) pa_nil)) (nomark _)) (pss_one (ps_ret pe_bl)) pss_nil)
    (pss_cons (ps_set (i := 9) sc_law.nd rfl (Or.inl rfl) (pe_lst (pa_cons (pe_meth (pv 5) T.c_Change T.m_Change_like G_Change_like hrc (bd_Change_like T) .nil pass0 (pa_cons (pv 6) pa_nil)) (pa_cons (pe_methK (pv 6) T.c_Change T.m_Change_like G_Change_like hrc (kb_like T) pass0 (pk_cons (pv 5) pk_nil)) (pa_cons (pe_cmpR (op_eqD hr.units) (pe_prop (pv 5) T.c_Change T.p_Change_tables (G_Change_tables) hrm (bd_Change_tables T) .nil pass0 rfl) (pe_prop (pv 6) T.c_Change T.p_Change_tables (G_Change_tables) hrm (bd_Change_tables T) .nil pass0 rfl) (nomark _)) pa_nil)))))
    (pss_one (ps_if (PW.pt (pw_or (pt_cmpR op_ne (pe_callB (call_reprD rfl hr.units) (by rfl) T.b_repr (by decide +kernel) (pa_cons (pv 9) pa_nil)) (pe_callB (call_reprD rfl hr.units) (by rfl) T.b_repr (by decide +kernel) (pa_cons (pe_op op_rep (pe_lst (pa_cons (pe_cmpR op_isN (pv 7) pe_non (nomark _)) pa_nil)) pe_int) pa_nil)) (nomark _)) (pw_or1 (pt_not (pt_val (pe_call G__law_joined_right hrc rfl T.mg__law_joined_right T.fn__law_joined_right.kp (bd__law_joined_right T) .nil pass0 (pa_cons (pv 1) (pa_cons (pv 3) pa_nil)))))))) (pss_one (ps_ret pe_bl)) pss_nil)))))))))))
    (pss_cons (ps_par (i := 10) (j := 11) rfl sc_law.nd rfl rfl (by decide) rfl rfl (pa_cons (ClX.pe_cmeth (pe_glob (v := .ref a.f_Change) rfl T.mg_Change rfl) T.r_Change T.m_Change_read (G_Change_read.raw (bd_Change_read T) .nil) hrc pass0 (pa_cons pe_str pa_nil)) (pa_cons (ClX.pe_cmeth (pe_glob (v := .ref a.f_Change) rfl T.mg_Change rfl) T.r_Change T.m_Change_read (G_Change_read.raw (bd_Change_read T) .nil) hrc pass0 (pa_cons pe_str pa_nil)) pa_nil)) (by rfl))
    (pss_cons (ps_if (PW.pt (pw_or (pt_cmpR op_isnot_bl (pe_meth (pv 10) T.c_Change T.m_Change_like G_Change_like hrc (bd_Change_like T) .nil pass0 (pa_cons (pv 11) pa_nil)) pe_bl (nomark _)) (pw_or1 (pt_cmpR (op_eqD hr.units) (pe_prop (pv 10) T.c_Change T.p_Change_tables (G_Change_tables) hrm (bd_Change_tables T) .nil pass0 rfl) (pe_prop (pv 11) T.c_Change T.p_Change_tables (G_Change_tables) hrm (bd_Change_tables T) .nil pass0 rfl) (nomark _))))) (pss_one (ps_ret pe_bl)) pss_nil)
    (pss_one (ps_ret (pe_and (pe_cmpR (op_eqG (rcG_tup (n := 8) (D := DTM a) (mon_tm a) ((eqG_flat.mono (by decide)).or (eqG_ins (R := SameM a) G_Mode_eqS T.m_ModeD_eqD.at_ T.m_ModeD_eqD.fn (bd_ModeD_eqD T) pass0))) hrc) (pe_call G_parting hrc rfl T.mg_parting T.fn_parting.kp (bd_parting T) .nil pass0 (pa_cons (pv 10) (pa_cons (pv 11) pa_nil))) (pe_tup (pa_cons pe_str (pa_cons (pe_make T.mk_Mode G_Mode_init hrm rfl T.mg_Mode (bd_ModeD_initD T) .nil pass0 (pa_cons pe_int pa_nil)) pa_nil))) (nomark _)) (pe_one (pe_cmpR (op_ownI (by intro _ _; rfl) T.m_ModeD_eqD.at_ T.m_ModeD_eqD.fn T.nf_Mode (G_Mode_eq.raw (bd_ModeD_eqD T) .nil) hrc pass0) (pe_make T.mk_Mode G_Mode_init hrm rfl T.mg_Mode (bd_ModeD_initD T) .nil pass0 (pa_cons pe_int pa_nil)) (StX.pe_callO (ClX.pe_cmeth (pe_glob (v := .ref a.f_Change) rfl T.mg_Change rfl) T.r_Change T.m_Change_read (G_Change_read.raw (bd_Change_read T) .nil) hrc pass0 (pa_cons pe_str pa_nil)) T.o_Change (G_ChangeD_callD.raw (bd_ChangeD_callD T) .nil) hrc pass0 (pa_cons pe_int (pa_cons pe_str pa_nil))) (nomark _)))))))))), ?_⟩
    refine ⟨.ref sc, rfl, sc, ns, rfl, hs, hl, fun p H1 hp e1 pen => ?_⟩
    refine q_forR1 (n := 2) (ea_cons ev_c ea_nil) (by decide) (fun i σ' H' => ∃ o2 o3 o4 o5 o6 o7 o8 o9 o10 o11 o12 o13, σ' = [some (.ref sc), some (.ref p), o2, o3, o4, o5, o6, o7, o8, o9, o10, o11, o12, o13] ∧ PenAt H' p (278 * i)) (fun H2 e2 => ⟨_, _, _, _, _, _, _, _, _, _, _, _, rfl, pen.keep e2⟩) (fun i σ' H2 hi q => ?_) (fun σ' H2 q => ?_)
    · obtain ⟨o2, o3, o4, o5, o6, o7, o8, o9, o10, o11, o12, o13, rfl, pen2⟩ := q
      have hi2 : i < 2 := by omega
      refine ⟨.ref p, rfl, p, 278 * i, 4, rfl, pen2, by omega, by decide, by decide, fun l cs H3 pos most ok lp e3 pen3 told => ?_⟩
      obtain ⟨_, _, _, _, z3, _⟩ := id pen3
      refine ⟨.ref p, rfl, .ref l, rfl, p, l, 278 * i + 13, cs, rfl, pen3, by omega, told, lp, ok, pos, most, fun m ds H4 pos' most' ok' mp e4 pen4 told4 => ?_⟩
      obtain ⟨X, hX, tv⟩ := told4.tv
      refine ⟨7, rfl, m, X, rfl, sq_of hX, fun q hq => ?_⟩
      have cut : cutV X none (some 7) = X := (cut_hi X 7).trans (List.take_of_length_le (by rw [tv.len]; omega))
      rw [cut]
      have e5 : Ex H4 (upd H4 q (.lst X)) := Ex.new hq
      have toldq : ToldAt (upd H4 q (.lst X)) q ds := (tv.mono e5).told upd_same
      have told5 : ToldAt (upd H4 q (.lst X)) l cs := (told.grow e4.ex z3 lp).mono e5
      have pen5 := pen4.keep e5
      generalize upd H4 q (.lst X) = H5 at toldq told5 pen5
      refine q_par2 (K := K) (a := a) (ech_readE (K := K) (a := a) (ev_textV (K := K) (ev_var rfl) told5 ok (by omega)) (split_text ok pos) (text_len8 ok (by omega)) ok pos (by omega)) (ech_readE (K := K) (a := a) (ev_textV (K := K) (ev_var rfl) toldq ok' (by omega)) (split_text ok' pos') (text_len8 ok' (by omega)) ok' pos' (by omega)) fun cl cr H6 e6 chl chr => ?_
      refine ⟨.ref l, rfl, .ref q, rfl, l, q, cs, ds, rfl, told5.mono e6, toldq.mono e6, ok, ok', fun due H7 e7 hdue => ?_⟩
      have chl7 := chl.mono e7
      have chr7 := chr.mono e7
      refine ⟨.ref cl, rfl, .ref cr, rfl, cl, cr, cs, ds, rfl, chl7, chr7, ok, ok', fun v1 H8 e8 hv1 => ⟨.ref cl, rfl, .ref cr, rfl, cr, cl, ds, cs, rfl, chr7.mono e8, chl7.mono e8, ok', ok, fun v2 H9 e9 hv2 => ⟨by show 2 ≤ sizeLine; decide, fun fo hfo => ?_⟩⟩⟩
      rw [apart_symm ds cs] at hv2
      have e10 : Ex H9 (upd H9 fo (.lst [v1, v2])) := Ex.new hfo
      have hfo10 : upd H9 fo (.lst [v1, v2]) fo = some (.lst [v1, v2]) := upd_same
      have hv1 := (hv1.mono e9).mono e10
      have hv2 := hv2.mono e10
      have e610 : Ex H6 (upd H9 fo (.lst [v1, v2])) := ((e7.trans e8).trans e9).trans e10
      have e710 : Ex H7 (upd H9 fo (.lst [v1, v2])) := (e8.trans e9).trans e10
      have hdue10 := hdue.mono e710
      have pen10 := (pen5.keep e6).keep e610
      have told10 := (told5.mono e6).mono e610
      have chl10 := chl.mono e610
      have chr10 := chr.mono e610
      generalize upd H9 fo (.lst [v1, v2]) = H10 at hfo10 hv1 hv2 hdue10 pen10 told10 chl10 chr10
      clear e7 e8 e9 e10 e610 e710 hdue hfo chl7 chr7
      refine q_reset (R := fun f H' => FoundAt H' f (apart cs ds)) (et_and (et_test (ev_op (ev_var rfl) ev_c rv_notN)) fun ha => et_test (ev_op ev_c (ev_var rfl) (rv_nonNot (K := K) hfo10 (fun z m => ?tup)))) (fun hb H11 e11 Q' kk => ?yes) (fun hb => ?no) fun f H11 e11 hf => ?rest
      case tup =>
        cases ap : apart cs ds with
        | none =>
          rw [due_none hdue10, ap] at ha
          cases ha
        | some r =>
          obtain ⟨form, n⟩ := r
          rw [ap] at hv1 hv2
          obtain ⟨t1, m1, rfl, h1, _⟩ := hv1
          obtain ⟨t2, m2, rfl, h2, _⟩ := hv2
          rcases List.mem_cons.mp m with z1 | z1
          · exact ⟨t1, _, z1, h1⟩
          · exact ⟨t2, _, List.mem_singleton.mp z1, h2⟩
      case yes =>
        cases ap : apart cs ds with
        | none =>
          rw [due_none hdue10, ap] at hb
          cases hb
        | some r =>
          obtain ⟨form, n⟩ := r
          rw [ap] at hv1 hv2 kk
          exact comp_found (K := K) (a := a) (form := form) (n := n) (e11 _ _ hfo10) (hv1.mono e11) (hv2.mono e11) fun f H2 e2 r => kk f H2 e2 r
      case no =>
        cases ap : apart cs ds with
        | some r =>
          rw [due_none hdue10, ap] at hb
          cases hb
        | none =>
          rw [ap] at hv1 hv2
          have hv1 : v1 = .non := hv1
          have hv2 : v2 = .non := hv2
          refine ⟨fo, rfl, fun H' e' => ⟨v1, v2, e' _ _ hfo10, hv1, hv2⟩⟩
      case rest =>
        have shw := due_shows (apart_ok cs ds)
        have hdue11 := hdue10.mono e11
        refine q_when (b := false) (et_is (et_test (ev_op (ev_reprV (K := K) (ev_var rfl) hf.dp (fun H' e' => (hf.mono e').dp) shw) (ev_reprL (K := K) (d := .list [dueD (apart cs ds), dueD (apart cs ds)]) (el_lst (ea_cons (ev_var rfl) (ea_cons (ev_var rfl) ea_nil)) (by show 2 ≤ 100000; decide)) (fun H' e' b hb => .lst (sq_of hb) (.cons (hdue11.mono e').dp (.cons (hdue11.mono e').dp .nil))) shw) (rv_ne rfl))) (by simp)) (fun z => nomatch z) fun _ H12 e12 => ?_
        have e112 := e11.trans e12
        have cl12 := chl10.mono e112
        have cr12 := chr10.mono e112
        refine q_asgL (xs := [.bl (decide (apart cs ds = none)), .bl (decide (apart cs ds = none)), .bl (decide (apart cs ds = none))]) (el_lst (ea_cons (ev_like (K := K) (ev_var rfl) (ev_var rfl) cl12 cr12 ok ok') (ea_cons (ev_is (ev_likeK (K := K) (ev_var rfl) (ev_var rfl) cr12 cl12 ok' ok) (by rw [apart_symm ds cs])) (ea_cons (ev_eqT (K := K) (ev_var rfl) (ev_var rfl) cl12 cr12 ok ok') ea_nil))) (by show 3 ≤ 100000; decide)) fun hd H13 _ e13 h13 => ?_
        have e113 := e112.trans e13
        have dpT : ∀ (b : Addr) (H' : Hp), H' b = some (.lst [.bl (decide (apart cs ds = none)), .bl (decide (apart cs ds = none)), .bl (decide (apart cs ds = none))]) → Dp K H' (.ref b) (.list [.bool (decide (apart cs ds = none)), .bool (decide (apart cs ds = none)), .bool (decide (apart cs ds = none))]) := fun b H' hb => .lst (sq_of hb) (.cons (.bl _) (.cons (.bl _) (.cons (.bl _) .nil)))
        have tsh := truth_shows (decide (apart cs ds = none))
        refine (et_is (et_test (ev_op (ev_reprV (K := K) (ev_var rfl) (dpT hd H13 h13) (fun H' e' => dpT hd H' (e' _ _ h13)) tsh) (ev_reprL (K := K) (d := .list [.bool (decide (apart cs ds = none)), .bool (decide (apart cs ds = none)), .bool (decide (apart cs ds = none))]) (el_rep3 (el_lst (ea_cons (ev_is (ev_op (ev_var rfl) ev_c rv_isN) (congrArg V.bl (due_none (hdue10.mono e113)))) ea_nil) (by show 1 ≤ 100000; decide))) (fun H' e' b hb => dpT b H' hb) tsh) (rv_ne rfl))) (by simp : _ = false)) H13 (Ex.refl _) _ fun H14 e14 => ?_
        refine iteF ?_
        have e114 := e113.trans e14
        refine ⟨.ref p, rfl, .ref l, rfl, p, l, 278 * i + 13 + 15, cs, rfl, pen10.keep e114, by omega, told10.mono e114, lp, ok, pos, most, fun H15 e15 pen15 => ⟨true, rfl, ?_⟩⟩
        refine iteF ?_
        exact ⟨_, _, _, _, _, _, _, _, _, _, _, _, rfl, pen15.le (by omega)⟩
    · obtain ⟨o2, o3, o4, o5, o6, o7, o8, o9, o10, o11, o12, o13, rfl, pen2⟩ := q
      obtain ⟨okS, okO, okE, spS, spO, spE, ap, fE⟩ := last_facts
      have fi : ("file" : Str) ∈ forms := by decide +kernel
      refine q_par2 (K := K) (a := a) (ech_readE (K := K) (a := a) (cs := lastS) ev_c spS (by decide +kernel) okS (by decide) (by decide)) (ech_readE (K := K) (a := a) (cs := lastO) ev_c spO (by decide +kernel) okO (by decide) (by decide)) fun sh op H3 e3 chS chO => ?_
      refine q_when (b := false) (et_is (et_or (et_test (ev_op (ev_like (K := K) (ev_var rfl) (ev_var rfl) chS chO okS okO) ev_c rv_notBl)) fun _ => et_test (ev_eqT (K := K) (ev_var rfl) (ev_var rfl) chS chO okS okO)) (by rw [ap]; decide)) (fun z => nomatch z) fun _ H4 e4 => ?_
      have u0 : uni 0 = 0 := by decide
      exact s_ret (v := .bl true) (ev_is (ev_andV (ev_lastEq (K := K) (a := a) (ev_var rfl) (ev_var rfl) (chS.mono e4) (chO.mono e4) okS okO ap (u0 ▸ em_mode (a := a) ev_c (by decide)) (by decide +kernel)) fun _ => ev_eqMM (K := K) (a := a) (n := 0) (em_mode ev_c (by decide)) (em_is (em_chE (K := K) (a := a) (n := 511) (ech_readE (K := K) (a := a) (cs := lastE) ev_c spE (by decide +kernel) okE (by decide) (by decide)) ev_c ev_c okE fi (by decide)) fE)) rfl) fun H5 e5 => k H5
end
end KY
set_option Elab.async false
set_option linter.all false
set_option maxRecDepth 100000
set_option maxHeartbeats 4000000
namespace KY
open PySem PySem.Spec PyProof.Rows L2 Evl
local macro_rules | `(tactic| walk_at "ev") => `(tactic| repeat' (first | exact ev_c | exact ev_var rfl | exact rv_I0 | refine' rv_I ?_ | refine' rv_eq ?_ | refine' rv_ne ?_ | refine' ev_op ?_ ?_ ?_ | exact ea_nil | refine' ea_cons ?_ ?_ | refine' et_test ?_ | refine' et_B ?_ | refine' et_not ?_ | refine' ev_notV ?_))

open PySem
theorem kit_self {K : PySem.W.Frag} {C : Addr} : PySem.W.kitOne K (.ref C) (.ref C) = some true := by
  unfold PySem.W.kitOne
  rw [if_pos (beq_iff_eq.mpr rfl)]
theorem kit_no {K : PySem.W.Frag} {C : Addr} {cd : PySem.ClassData} (ci : PySem.W.clsIn K C = some cd) (ti : PySem.W.typeIn K (.ref C) = some (.type "type")) (su : PySem.W.subIn K (.type "int") (.ref C) = some false) : PySem.W.kitOne K (.type "int") (.ref C) = some false := by
  unfold PySem.W.kitOne PySem.W.kitCls
  rw [if_neg (fun h => by have := beq_iff_eq.mp h; cases this)]
  show (if ((PySem.W.clsIn K C).isSome && PySem.W.typeIn K (.ref C) == some (.type "type")) = true then PySem.W.subIn K (.type "int") (.ref C) else none) = some false
  rw [if_pos (by rw [ci, ti]; simp), su]
theorem tup_at {K : PySem.W.Frag} {H : Hp} {k : Addr} {its : Array Value} {n : Nat} {od : Option Addr} {sl : Array (Option Value)} {xs : List V} (l : K.lookup k = some ⟨.type "tuple", od, .seq its n, sl⟩) (z : its.size ≤ sizeLine) (r : Vals xs its.toList) : SqT K H k xs := .inr ⟨_, its, n, l, rfl, rfl, z, r⟩
theorem all_mk {l : PySem.W.OpenLaw} {w : World} {K : PySem.W.Frag} {h : Heap} {mg : Str → Option Value} {fa : Addr} (X : K.In h) (G : h.Ns mainGlobals mg) (hfa : mg "law" = some (.ref fa))
    {f_is_whole f_is_whole_to f_is_choice f_pattern_in f_bits_of f_number_of f_is_meant f_pattern_behind f_part_of f_parts_for f_number_behind f__law_pen f__law_draw f__law_pick f__law_clause f__law_clause_done f_law f_in_turn f_tables_of f_parting f__law_text f__law_change f__law_change_text f__law_change_done f__law_again f__law_parting f__law_joined_right f_Mode f_ModeD_initD f_Mode_number p_Mode_number f_ModeD_strD f_ModeD_eqD f_Mode_uniform p_Mode_uniform f_Clause f_ClauseD_initD f_Clause_who p_Clause_who f_Clause_sign p_Clause_sign f_Clause_what p_Clause_what f_ClauseD_eqD f_ClauseD_callD f_Clause_read p_Clause_read f_Change f_ChangeD_initD f_Change_clauses p_Change_clauses f_Change_tables p_Change_tables f_Change_like f_ChangeD_mulD f_ChangeD_eqD f_ChangeD_callD f_Change_read p_Change_read k_SIGNS k_PATTERNS k_NINE_BITS k_P1 k_P2 k_P3 k_P4 k_PARTS x_BadClause k_CLASSES k_FORMS : Addr}
    {od_is_whole : Option Addr} {an_is_whole : Option Addr} {sl_is_whole : Array (Option Value)} {oc_is_whole kV_is_whole dc_is_whole pm_is_whole cd_is_whole ct_is_whole : Value} {od_is_whole_to : Option Addr} {an_is_whole_to : Option Addr} {sl_is_whole_to : Array (Option Value)} {oc_is_whole_to kV_is_whole_to dc_is_whole_to pm_is_whole_to cd_is_whole_to ct_is_whole_to : Value} {od_is_choice : Option Addr} {an_is_choice : Option Addr} {sl_is_choice : Array (Option Value)} {oc_is_choice kV_is_choice dc_is_choice pm_is_choice cd_is_choice ct_is_choice : Value} {od_pattern_in : Option Addr} {an_pattern_in : Option Addr} {sl_pattern_in : Array (Option Value)} {oc_pattern_in kV_pattern_in dc_pattern_in pm_pattern_in cd_pattern_in ct_pattern_in : Value} {od_bits_of : Option Addr} {an_bits_of : Option Addr} {sl_bits_of : Array (Option Value)} {oc_bits_of kV_bits_of dc_bits_of pm_bits_of cd_bits_of ct_bits_of : Value} {od_number_of : Option Addr} {an_number_of : Option Addr} {sl_number_of : Array (Option Value)} {oc_number_of kV_number_of dc_number_of pm_number_of cd_number_of ct_number_of : Value} {od_is_meant : Option Addr} {an_is_meant : Option Addr} {sl_is_meant : Array (Option Value)} {oc_is_meant kV_is_meant dc_is_meant pm_is_meant cd_is_meant ct_is_meant : Value} {od_pattern_behind : Option Addr} {an_pattern_behind : Option Addr} {sl_pattern_behind : Array (Option Value)} {oc_pattern_behind kV_pattern_behind dc_pattern_behind pm_pattern_behind cd_pattern_behind ct_pattern_behind : Value} {od_part_of : Option Addr} {an_part_of : Option Addr} {sl_part_of : Array (Option Value)} {oc_part_of kV_part_of dc_part_of pm_part_of cd_part_of ct_part_of : Value} {od_parts_for : Option Addr} {an_parts_for : Option Addr} {sl_parts_for : Array (Option Value)} {oc_parts_for kV_parts_for dc_parts_for pm_parts_for cd_parts_for ct_parts_for : Value} {od_number_behind : Option Addr} {an_number_behind : Option Addr} {sl_number_behind : Array (Option Value)} {oc_number_behind kV_number_behind dc_number_behind pm_number_behind cd_number_behind ct_number_behind : Value} {od__law_pen : Option Addr} {an__law_pen : Option Addr} {sl__law_pen : Array (Option Value)} {oc__law_pen kV__law_pen dc__law_pen pm__law_pen cd__law_pen ct__law_pen : Value} {od__law_draw : Option Addr} {an__law_draw : Option Addr} {sl__law_draw : Array (Option Value)} {oc__law_draw kV__law_draw dc__law_draw pm__law_draw cd__law_draw ct__law_draw : Value} {od__law_pick : Option Addr} {an__law_pick : Option Addr} {sl__law_pick : Array (Option Value)} {oc__law_pick kV__law_pick dc__law_pick pm__law_pick cd__law_pick ct__law_pick : Value} {od__law_clause : Option Addr} {an__law_clause : Option Addr} {sl__law_clause : Array (Option Value)} {oc__law_clause kV__law_clause dc__law_clause pm__law_clause cd__law_clause ct__law_clause : Value} {od__law_clause_done : Option Addr} {an__law_clause_done : Option Addr} {sl__law_clause_done : Array (Option Value)} {oc__law_clause_done kV__law_clause_done dc__law_clause_done pm__law_clause_done cd__law_clause_done ct__law_clause_done : Value} {od_law : Option Addr} {an_law : Option Addr} {sl_law : Array (Option Value)} {oc_law kV_law dc_law pm_law cd_law ct_law : Value} {od_in_turn : Option Addr} {an_in_turn : Option Addr} {sl_in_turn : Array (Option Value)} {oc_in_turn kV_in_turn dc_in_turn pm_in_turn cd_in_turn ct_in_turn : Value} {od_tables_of : Option Addr} {an_tables_of : Option Addr} {sl_tables_of : Array (Option Value)} {oc_tables_of kV_tables_of dc_tables_of pm_tables_of cd_tables_of ct_tables_of : Value} {od_parting : Option Addr} {an_parting : Option Addr} {sl_parting : Array (Option Value)} {oc_parting kV_parting dc_parting pm_parting cd_parting ct_parting : Value} {od__law_text : Option Addr} {an__law_text : Option Addr} {sl__law_text : Array (Option Value)} {oc__law_text kV__law_text dc__law_text pm__law_text cd__law_text ct__law_text : Value} {od__law_change : Option Addr} {an__law_change : Option Addr} {sl__law_change : Array (Option Value)} {oc__law_change kV__law_change dc__law_change pm__law_change cd__law_change ct__law_change : Value} {od__law_change_text : Option Addr} {an__law_change_text : Option Addr} {sl__law_change_text : Array (Option Value)} {oc__law_change_text kV__law_change_text dc__law_change_text pm__law_change_text cd__law_change_text ct__law_change_text : Value} {od__law_change_done : Option Addr} {an__law_change_done : Option Addr} {sl__law_change_done : Array (Option Value)} {oc__law_change_done kV__law_change_done dc__law_change_done pm__law_change_done cd__law_change_done ct__law_change_done : Value} {od__law_again : Option Addr} {an__law_again : Option Addr} {sl__law_again : Array (Option Value)} {oc__law_again kV__law_again dc__law_again pm__law_again cd__law_again ct__law_again : Value} {od__law_parting : Option Addr} {an__law_parting : Option Addr} {sl__law_parting : Array (Option Value)} {oc__law_parting kV__law_parting dc__law_parting pm__law_parting cd__law_parting ct__law_parting : Value} {od__law_joined_right : Option Addr} {an__law_joined_right : Option Addr} {sl__law_joined_right : Array (Option Value)} {oc__law_joined_right kV__law_joined_right dc__law_joined_right pm__law_joined_right cd__law_joined_right ct__law_joined_right : Value} {od_ModeD_initD : Option Addr} {an_ModeD_initD : Option Addr} {sl_ModeD_initD : Array (Option Value)} {oc_ModeD_initD kV_ModeD_initD dc_ModeD_initD pm_ModeD_initD cd_ModeD_initD ct_ModeD_initD : Value} {re_Mode_number : List Value} {od_Mode_number : Option Addr} {an_Mode_number : Option Addr} {sl_Mode_number : Array (Option Value)} {oc_Mode_number kV_Mode_number dc_Mode_number pm_Mode_number cd_Mode_number ct_Mode_number : Value} {od_ModeD_strD : Option Addr} {an_ModeD_strD : Option Addr} {sl_ModeD_strD : Array (Option Value)} {oc_ModeD_strD kV_ModeD_strD dc_ModeD_strD pm_ModeD_strD cd_ModeD_strD ct_ModeD_strD : Value} {od_ModeD_eqD : Option Addr} {an_ModeD_eqD : Option Addr} {sl_ModeD_eqD : Array (Option Value)} {oc_ModeD_eqD kV_ModeD_eqD dc_ModeD_eqD pm_ModeD_eqD cd_ModeD_eqD ct_ModeD_eqD : Value} {tk_Mode_MOST : Tok} {re_Mode_uniform : List Value} {od_Mode_uniform : Option Addr} {an_Mode_uniform : Option Addr} {sl_Mode_uniform : Array (Option Value)} {oc_Mode_uniform kV_Mode_uniform dc_Mode_uniform pm_Mode_uniform cd_Mode_uniform ct_Mode_uniform : Value} {cd_Mode : PySem.ClassData} {od_ClauseD_initD : Option Addr} {an_ClauseD_initD : Option Addr} {sl_ClauseD_initD : Array (Option Value)} {oc_ClauseD_initD kV_ClauseD_initD dc_ClauseD_initD pm_ClauseD_initD cd_ClauseD_initD ct_ClauseD_initD : Value} {re_Clause_who : List Value} {od_Clause_who : Option Addr} {an_Clause_who : Option Addr} {sl_Clause_who : Array (Option Value)} {oc_Clause_who kV_Clause_who dc_Clause_who pm_Clause_who cd_Clause_who ct_Clause_who : Value} {re_Clause_sign : List Value} {od_Clause_sign : Option Addr} {an_Clause_sign : Option Addr} {sl_Clause_sign : Array (Option Value)} {oc_Clause_sign kV_Clause_sign dc_Clause_sign pm_Clause_sign cd_Clause_sign ct_Clause_sign : Value} {re_Clause_what : List Value} {od_Clause_what : Option Addr} {an_Clause_what : Option Addr} {sl_Clause_what : Array (Option Value)} {oc_Clause_what kV_Clause_what dc_Clause_what pm_Clause_what cd_Clause_what ct_Clause_what : Value} {od_ClauseD_eqD : Option Addr} {an_ClauseD_eqD : Option Addr} {sl_ClauseD_eqD : Array (Option Value)} {oc_ClauseD_eqD kV_ClauseD_eqD dc_ClauseD_eqD pm_ClauseD_eqD cd_ClauseD_eqD ct_ClauseD_eqD : Value} {od_ClauseD_callD : Option Addr} {an_ClauseD_callD : Option Addr} {sl_ClauseD_callD : Array (Option Value)} {oc_ClauseD_callD kV_ClauseD_callD dc_ClauseD_callD pm_ClauseD_callD cd_ClauseD_callD ct_ClauseD_callD : Value} {re_Clause_read : List Value} {od_Clause_read : Option Addr} {an_Clause_read : Option Addr} {sl_Clause_read : Array (Option Value)} {oc_Clause_read kV_Clause_read dc_Clause_read pm_Clause_read cd_Clause_read ct_Clause_read : Value} {cd_Clause : PySem.ClassData} {od_ChangeD_initD : Option Addr} {an_ChangeD_initD : Option Addr} {sl_ChangeD_initD : Array (Option Value)} {oc_ChangeD_initD kV_ChangeD_initD dc_ChangeD_initD pm_ChangeD_initD cd_ChangeD_initD ct_ChangeD_initD : Value} {re_Change_clauses : List Value} {od_Change_clauses : Option Addr} {an_Change_clauses : Option Addr} {sl_Change_clauses : Array (Option Value)} {oc_Change_clauses kV_Change_clauses dc_Change_clauses pm_Change_clauses cd_Change_clauses ct_Change_clauses : Value} {re_Change_tables : List Value} {od_Change_tables : Option Addr} {an_Change_tables : Option Addr} {sl_Change_tables : Array (Option Value)} {oc_Change_tables kV_Change_tables dc_Change_tables pm_Change_tables cd_Change_tables ct_Change_tables : Value} {od_Change_like : Option Addr} {an_Change_like : Option Addr} {sl_Change_like : Array (Option Value)} {oc_Change_like kV_Change_like dc_Change_like pm_Change_like cd_Change_like ct_Change_like : Value} {od_ChangeD_mulD : Option Addr} {an_ChangeD_mulD : Option Addr} {sl_ChangeD_mulD : Array (Option Value)} {oc_ChangeD_mulD kV_ChangeD_mulD dc_ChangeD_mulD pm_ChangeD_mulD cd_ChangeD_mulD ct_ChangeD_mulD : Value} {od_ChangeD_eqD : Option Addr} {an_ChangeD_eqD : Option Addr} {sl_ChangeD_eqD : Array (Option Value)} {oc_ChangeD_eqD kV_ChangeD_eqD dc_ChangeD_eqD pm_ChangeD_eqD cd_ChangeD_eqD ct_ChangeD_eqD : Value} {tk_Change_MOST : Tok} {od_ChangeD_callD : Option Addr} {an_ChangeD_callD : Option Addr} {sl_ChangeD_callD : Array (Option Value)} {oc_ChangeD_callD kV_ChangeD_callD dc_ChangeD_callD pm_ChangeD_callD cd_ChangeD_callD ct_ChangeD_callD : Value} {re_Change_read : List Value} {od_Change_read : Option Addr} {an_Change_read : Option Addr} {sl_Change_read : Array (Option Value)} {oc_Change_read kV_Change_read dc_Change_read pm_Change_read cd_Change_read ct_Change_read : Value} {cd_Change : PySem.ClassData} {its_SIGNS : Array Value} {tn_SIGNS : Nat} {tod_SIGNS : Option Addr} {tsl_SIGNS : Array (Option Value)} {its_PATTERNS : Array Value} {tn_PATTERNS : Nat} {tod_PATTERNS : Option Addr} {tsl_PATTERNS : Array (Option Value)} {its_NINE_BITS : Array Value} {tn_NINE_BITS : Nat} {tod_NINE_BITS : Option Addr} {tsl_NINE_BITS : Array (Option Value)} {tk_NS : Tok} {its_PARTS : Array Value} {tn_PARTS : Nat} {tod_PARTS : Option Addr} {tsl_PARTS : Array (Option Value)} {its_P1 : Array Value} {tn_P1 : Nat} {tod_P1 : Option Addr} {tsl_P1 : Array (Option Value)} {its_P2 : Array Value} {tn_P2 : Nat} {tod_P2 : Option Addr} {tsl_P2 : Array (Option Value)} {its_P3 : Array Value} {tn_P3 : Nat} {tod_P3 : Option Addr} {tsl_P3 : Array (Option Value)} {its_P4 : Array Value} {tn_P4 : Nat} {tod_P4 : Option Addr} {tsl_P4 : Array (Option Value)} {es_CL : Array DictEntry} {n_CL : Nat} {tku tkg tko : Tok} {its_FORMS : Array Value} {tn_FORMS : Nat} {tod_FORMS : Option Addr} {tsl_FORMS : Array (Option Value)}
    (z_isinstance : PySem.W.nsIn K mainGlobals "isinstance" = some none)
    (z_int : PySem.W.nsIn K mainGlobals "int" = some none)
    (z_bool : PySem.W.nsIn K mainGlobals "bool" = some none)
    (z_str : PySem.W.nsIn K mainGlobals "str" = some none)
    (z_sum : PySem.W.nsIn K mainGlobals "sum" = some none)
    (z_tuple : PySem.W.nsIn K mainGlobals "tuple" = some none)
    (z_zip : PySem.W.nsIn K mainGlobals "zip" = some none)
    (z_list : PySem.W.nsIn K mainGlobals "list" = some none)
    (z_len : PySem.W.nsIn K mainGlobals "len" = some none)
    (z_abs : PySem.W.nsIn K mainGlobals "abs" = some none)
    (z_range : PySem.W.nsIn K mainGlobals "range" = some none)
    (z_dict : PySem.W.nsIn K mainGlobals "dict" = some none)
    (z_enumerate : PySem.W.nsIn K mainGlobals "enumerate" = some none)
    (z_repr : PySem.W.nsIn K mainGlobals "repr" = some none)
    (a_is_whole : PySem.W.nsIn K mainGlobals "is_whole" = some (some (.ref f_is_whole)))
    (l_is_whole : K.lookup f_is_whole = some ⟨oc_is_whole, od_is_whole, .func (PySem.W.fnOf "is_whole" "is_whole" (defArgs s_is_whole) (defBody s_is_whole) (defScope s_is_whole) .none kV_is_whole dc_is_whole pm_is_whole an_is_whole cd_is_whole ct_is_whole), sl_is_whole⟩)
    (co_is_whole : PySem.W.codeIn K cd_is_whole "is_whole" = true)
    (kp_is_whole : PySem.W.keepIn K (.ref f_is_whole) = true)
    (a_is_whole_to : PySem.W.nsIn K mainGlobals "is_whole_to" = some (some (.ref f_is_whole_to)))
    (l_is_whole_to : K.lookup f_is_whole_to = some ⟨oc_is_whole_to, od_is_whole_to, .func (PySem.W.fnOf "is_whole_to" "is_whole_to" (defArgs s_is_whole_to) (defBody s_is_whole_to) (defScope s_is_whole_to) .none kV_is_whole_to dc_is_whole_to pm_is_whole_to an_is_whole_to cd_is_whole_to ct_is_whole_to), sl_is_whole_to⟩)
    (co_is_whole_to : PySem.W.codeIn K cd_is_whole_to "is_whole_to" = true)
    (kp_is_whole_to : PySem.W.keepIn K (.ref f_is_whole_to) = true)
    (a_is_choice : PySem.W.nsIn K mainGlobals "is_choice" = some (some (.ref f_is_choice)))
    (l_is_choice : K.lookup f_is_choice = some ⟨oc_is_choice, od_is_choice, .func (PySem.W.fnOf "is_choice" "is_choice" (defArgs s_is_choice) (defBody s_is_choice) (defScope s_is_choice) .none kV_is_choice dc_is_choice pm_is_choice an_is_choice cd_is_choice ct_is_choice), sl_is_choice⟩)
    (co_is_choice : PySem.W.codeIn K cd_is_choice "is_choice" = true)
    (kp_is_choice : PySem.W.keepIn K (.ref f_is_choice) = true)
    (a_pattern_in : PySem.W.nsIn K mainGlobals "pattern_in" = some (some (.ref f_pattern_in)))
    (l_pattern_in : K.lookup f_pattern_in = some ⟨oc_pattern_in, od_pattern_in, .func (PySem.W.fnOf "pattern_in" "pattern_in" (defArgs s_pattern_in) (defBody s_pattern_in) (defScope s_pattern_in) .none kV_pattern_in dc_pattern_in pm_pattern_in an_pattern_in cd_pattern_in ct_pattern_in), sl_pattern_in⟩)
    (co_pattern_in : PySem.W.codeIn K cd_pattern_in "pattern_in" = true)
    (kp_pattern_in : PySem.W.keepIn K (.ref f_pattern_in) = true)
    (a_bits_of : PySem.W.nsIn K mainGlobals "bits_of" = some (some (.ref f_bits_of)))
    (l_bits_of : K.lookup f_bits_of = some ⟨oc_bits_of, od_bits_of, .func (PySem.W.fnOf "bits_of" "bits_of" (defArgs s_bits_of) (defBody s_bits_of) (defScope s_bits_of) .none kV_bits_of dc_bits_of pm_bits_of an_bits_of cd_bits_of ct_bits_of), sl_bits_of⟩)
    (co_bits_of : PySem.W.codeIn K cd_bits_of "bits_of" = true)
    (kp_bits_of : PySem.W.keepIn K (.ref f_bits_of) = true)
    (a_number_of : PySem.W.nsIn K mainGlobals "number_of" = some (some (.ref f_number_of)))
    (l_number_of : K.lookup f_number_of = some ⟨oc_number_of, od_number_of, .func (PySem.W.fnOf "number_of" "number_of" (defArgs s_number_of) (defBody s_number_of) (defScope s_number_of) .none kV_number_of dc_number_of pm_number_of an_number_of cd_number_of ct_number_of), sl_number_of⟩)
    (co_number_of : PySem.W.codeIn K cd_number_of "number_of" = true)
    (kp_number_of : PySem.W.keepIn K (.ref f_number_of) = true)
    (a_is_meant : PySem.W.nsIn K mainGlobals "is_meant" = some (some (.ref f_is_meant)))
    (l_is_meant : K.lookup f_is_meant = some ⟨oc_is_meant, od_is_meant, .func (PySem.W.fnOf "is_meant" "is_meant" (defArgs s_is_meant) (defBody s_is_meant) (defScope s_is_meant) .none kV_is_meant dc_is_meant pm_is_meant an_is_meant cd_is_meant ct_is_meant), sl_is_meant⟩)
    (co_is_meant : PySem.W.codeIn K cd_is_meant "is_meant" = true)
    (kp_is_meant : PySem.W.keepIn K (.ref f_is_meant) = true)
    (a_pattern_behind : PySem.W.nsIn K mainGlobals "pattern_behind" = some (some (.ref f_pattern_behind)))
    (l_pattern_behind : K.lookup f_pattern_behind = some ⟨oc_pattern_behind, od_pattern_behind, .func (PySem.W.fnOf "pattern_behind" "pattern_behind" (defArgs s_pattern_behind) (defBody s_pattern_behind) (defScope s_pattern_behind) .none kV_pattern_behind dc_pattern_behind pm_pattern_behind an_pattern_behind cd_pattern_behind ct_pattern_behind), sl_pattern_behind⟩)
    (co_pattern_behind : PySem.W.codeIn K cd_pattern_behind "pattern_behind" = true)
    (kp_pattern_behind : PySem.W.keepIn K (.ref f_pattern_behind) = true)
    (a_part_of : PySem.W.nsIn K mainGlobals "part_of" = some (some (.ref f_part_of)))
    (l_part_of : K.lookup f_part_of = some ⟨oc_part_of, od_part_of, .func (PySem.W.fnOf "part_of" "part_of" (defArgs s_part_of) (defBody s_part_of) (defScope s_part_of) .none kV_part_of dc_part_of pm_part_of an_part_of cd_part_of ct_part_of), sl_part_of⟩)
    (co_part_of : PySem.W.codeIn K cd_part_of "part_of" = true)
    (kp_part_of : PySem.W.keepIn K (.ref f_part_of) = true)
    (a_parts_for : PySem.W.nsIn K mainGlobals "parts_for" = some (some (.ref f_parts_for)))
    (l_parts_for : K.lookup f_parts_for = some ⟨oc_parts_for, od_parts_for, .func (PySem.W.fnOf "parts_for" "parts_for" (defArgs s_parts_for) (defBody s_parts_for) (defScope s_parts_for) .none kV_parts_for dc_parts_for pm_parts_for an_parts_for cd_parts_for ct_parts_for), sl_parts_for⟩)
    (co_parts_for : PySem.W.codeIn K cd_parts_for "parts_for" = true)
    (kp_parts_for : PySem.W.keepIn K (.ref f_parts_for) = true)
    (a_number_behind : PySem.W.nsIn K mainGlobals "number_behind" = some (some (.ref f_number_behind)))
    (l_number_behind : K.lookup f_number_behind = some ⟨oc_number_behind, od_number_behind, .func (PySem.W.fnOf "number_behind" "number_behind" (defArgs s_number_behind) (defBody s_number_behind) (defScope s_number_behind) .none kV_number_behind dc_number_behind pm_number_behind an_number_behind cd_number_behind ct_number_behind), sl_number_behind⟩)
    (co_number_behind : PySem.W.codeIn K cd_number_behind "number_behind" = true)
    (kp_number_behind : PySem.W.keepIn K (.ref f_number_behind) = true)
    (a__law_pen : PySem.W.nsIn K mainGlobals "_law_pen" = some (some (.ref f__law_pen)))
    (l__law_pen : K.lookup f__law_pen = some ⟨oc__law_pen, od__law_pen, .func (PySem.W.fnOf "_law_pen" "_law_pen" (defArgs s__law_pen) (defBody s__law_pen) (defScope s__law_pen) .none kV__law_pen dc__law_pen pm__law_pen an__law_pen cd__law_pen ct__law_pen), sl__law_pen⟩)
    (co__law_pen : PySem.W.codeIn K cd__law_pen "_law_pen" = true)
    (kp__law_pen : PySem.W.keepIn K (.ref f__law_pen) = true)
    (a__law_draw : PySem.W.nsIn K mainGlobals "_law_draw" = some (some (.ref f__law_draw)))
    (l__law_draw : K.lookup f__law_draw = some ⟨oc__law_draw, od__law_draw, .func (PySem.W.fnOf "_law_draw" "_law_draw" (defArgs s__law_draw) (defBody s__law_draw) (defScope s__law_draw) .none kV__law_draw dc__law_draw pm__law_draw an__law_draw cd__law_draw ct__law_draw), sl__law_draw⟩)
    (co__law_draw : PySem.W.codeIn K cd__law_draw "_law_draw" = true)
    (kp__law_draw : PySem.W.keepIn K (.ref f__law_draw) = true)
    (a__law_pick : PySem.W.nsIn K mainGlobals "_law_pick" = some (some (.ref f__law_pick)))
    (l__law_pick : K.lookup f__law_pick = some ⟨oc__law_pick, od__law_pick, .func (PySem.W.fnOf "_law_pick" "_law_pick" (defArgs s__law_pick) (defBody s__law_pick) (defScope s__law_pick) .none kV__law_pick dc__law_pick pm__law_pick an__law_pick cd__law_pick ct__law_pick), sl__law_pick⟩)
    (co__law_pick : PySem.W.codeIn K cd__law_pick "_law_pick" = true)
    (kp__law_pick : PySem.W.keepIn K (.ref f__law_pick) = true)
    (a__law_clause : PySem.W.nsIn K mainGlobals "_law_clause" = some (some (.ref f__law_clause)))
    (l__law_clause : K.lookup f__law_clause = some ⟨oc__law_clause, od__law_clause, .func (PySem.W.fnOf "_law_clause" "_law_clause" (defArgs s__law_clause) (defBody s__law_clause) (defScope s__law_clause) .none kV__law_clause dc__law_clause pm__law_clause an__law_clause cd__law_clause ct__law_clause), sl__law_clause⟩)
    (co__law_clause : PySem.W.codeIn K cd__law_clause "_law_clause" = true)
    (kp__law_clause : PySem.W.keepIn K (.ref f__law_clause) = true)
    (a__law_clause_done : PySem.W.nsIn K mainGlobals "_law_clause_done" = some (some (.ref f__law_clause_done)))
    (l__law_clause_done : K.lookup f__law_clause_done = some ⟨oc__law_clause_done, od__law_clause_done, .func (PySem.W.fnOf "_law_clause_done" "_law_clause_done" (defArgs s__law_clause_done) (defBody s__law_clause_done) (defScope s__law_clause_done) .none kV__law_clause_done dc__law_clause_done pm__law_clause_done an__law_clause_done cd__law_clause_done ct__law_clause_done), sl__law_clause_done⟩)
    (co__law_clause_done : PySem.W.codeIn K cd__law_clause_done "_law_clause_done" = true)
    (kp__law_clause_done : PySem.W.keepIn K (.ref f__law_clause_done) = true)
    (a_law : PySem.W.nsIn K mainGlobals "law" = some (some (.ref f_law)))
    (l_law : K.lookup f_law = some ⟨oc_law, od_law, .func (PySem.W.fnOf "law" "law" (defArgs s_law) (defBody s_law) (defScope s_law) .none kV_law dc_law pm_law an_law cd_law ct_law), sl_law⟩)
    (co_law : PySem.W.codeIn K cd_law "law" = true)
    (kp_law : PySem.W.keepIn K (.ref f_law) = true)
    (a_in_turn : PySem.W.nsIn K mainGlobals "in_turn" = some (some (.ref f_in_turn)))
    (l_in_turn : K.lookup f_in_turn = some ⟨oc_in_turn, od_in_turn, .func (PySem.W.fnOf "in_turn" "in_turn" (defArgs s_in_turn) (defBody s_in_turn) (defScope s_in_turn) .none kV_in_turn dc_in_turn pm_in_turn an_in_turn cd_in_turn ct_in_turn), sl_in_turn⟩)
    (co_in_turn : PySem.W.codeIn K cd_in_turn "in_turn" = true)
    (kp_in_turn : PySem.W.keepIn K (.ref f_in_turn) = true)
    (a_tables_of : PySem.W.nsIn K mainGlobals "tables_of" = some (some (.ref f_tables_of)))
    (l_tables_of : K.lookup f_tables_of = some ⟨oc_tables_of, od_tables_of, .func (PySem.W.fnOf "tables_of" "tables_of" (defArgs s_tables_of) (defBody s_tables_of) (defScope s_tables_of) .none kV_tables_of dc_tables_of pm_tables_of an_tables_of cd_tables_of ct_tables_of), sl_tables_of⟩)
    (co_tables_of : PySem.W.codeIn K cd_tables_of "tables_of" = true)
    (kp_tables_of : PySem.W.keepIn K (.ref f_tables_of) = true)
    (a_parting : PySem.W.nsIn K mainGlobals "parting" = some (some (.ref f_parting)))
    (l_parting : K.lookup f_parting = some ⟨oc_parting, od_parting, .func (PySem.W.fnOf "parting" "parting" (defArgs s_parting) (defBody s_parting) (defScope s_parting) .none kV_parting dc_parting pm_parting an_parting cd_parting ct_parting), sl_parting⟩)
    (co_parting : PySem.W.codeIn K cd_parting "parting" = true)
    (kp_parting : PySem.W.keepIn K (.ref f_parting) = true)
    (a__law_text : PySem.W.nsIn K mainGlobals "_law_text" = some (some (.ref f__law_text)))
    (l__law_text : K.lookup f__law_text = some ⟨oc__law_text, od__law_text, .func (PySem.W.fnOf "_law_text" "_law_text" (defArgs s__law_text) (defBody s__law_text) (defScope s__law_text) .none kV__law_text dc__law_text pm__law_text an__law_text cd__law_text ct__law_text), sl__law_text⟩)
    (co__law_text : PySem.W.codeIn K cd__law_text "_law_text" = true)
    (kp__law_text : PySem.W.keepIn K (.ref f__law_text) = true)
    (a__law_change : PySem.W.nsIn K mainGlobals "_law_change" = some (some (.ref f__law_change)))
    (l__law_change : K.lookup f__law_change = some ⟨oc__law_change, od__law_change, .func (PySem.W.fnOf "_law_change" "_law_change" (defArgs s__law_change) (defBody s__law_change) (defScope s__law_change) .none kV__law_change dc__law_change pm__law_change an__law_change cd__law_change ct__law_change), sl__law_change⟩)
    (co__law_change : PySem.W.codeIn K cd__law_change "_law_change" = true)
    (kp__law_change : PySem.W.keepIn K (.ref f__law_change) = true)
    (a__law_change_text : PySem.W.nsIn K mainGlobals "_law_change_text" = some (some (.ref f__law_change_text)))
    (l__law_change_text : K.lookup f__law_change_text = some ⟨oc__law_change_text, od__law_change_text, .func (PySem.W.fnOf "_law_change_text" "_law_change_text" (defArgs s__law_change_text) (defBody s__law_change_text) (defScope s__law_change_text) .none kV__law_change_text dc__law_change_text pm__law_change_text an__law_change_text cd__law_change_text ct__law_change_text), sl__law_change_text⟩)
    (co__law_change_text : PySem.W.codeIn K cd__law_change_text "_law_change_text" = true)
    (kp__law_change_text : PySem.W.keepIn K (.ref f__law_change_text) = true)
    (a__law_change_done : PySem.W.nsIn K mainGlobals "_law_change_done" = some (some (.ref f__law_change_done)))
    (l__law_change_done : K.lookup f__law_change_done = some ⟨oc__law_change_done, od__law_change_done, .func (PySem.W.fnOf "_law_change_done" "_law_change_done" (defArgs s__law_change_done) (defBody s__law_change_done) (defScope s__law_change_done) .none kV__law_change_done dc__law_change_done pm__law_change_done an__law_change_done cd__law_change_done ct__law_change_done), sl__law_change_done⟩)
    (co__law_change_done : PySem.W.codeIn K cd__law_change_done "_law_change_done" = true)
    (kp__law_change_done : PySem.W.keepIn K (.ref f__law_change_done) = true)
    (a__law_again : PySem.W.nsIn K mainGlobals "_law_again" = some (some (.ref f__law_again)))
    (l__law_again : K.lookup f__law_again = some ⟨oc__law_again, od__law_again, .func (PySem.W.fnOf "_law_again" "_law_again" (defArgs s__law_again) (defBody s__law_again) (defScope s__law_again) .none kV__law_again dc__law_again pm__law_again an__law_again cd__law_again ct__law_again), sl__law_again⟩)
    (co__law_again : PySem.W.codeIn K cd__law_again "_law_again" = true)
    (kp__law_again : PySem.W.keepIn K (.ref f__law_again) = true)
    (a__law_parting : PySem.W.nsIn K mainGlobals "_law_parting" = some (some (.ref f__law_parting)))
    (l__law_parting : K.lookup f__law_parting = some ⟨oc__law_parting, od__law_parting, .func (PySem.W.fnOf "_law_parting" "_law_parting" (defArgs s__law_parting) (defBody s__law_parting) (defScope s__law_parting) .none kV__law_parting dc__law_parting pm__law_parting an__law_parting cd__law_parting ct__law_parting), sl__law_parting⟩)
    (co__law_parting : PySem.W.codeIn K cd__law_parting "_law_parting" = true)
    (kp__law_parting : PySem.W.keepIn K (.ref f__law_parting) = true)
    (a__law_joined_right : PySem.W.nsIn K mainGlobals "_law_joined_right" = some (some (.ref f__law_joined_right)))
    (l__law_joined_right : K.lookup f__law_joined_right = some ⟨oc__law_joined_right, od__law_joined_right, .func (PySem.W.fnOf "_law_joined_right" "_law_joined_right" (defArgs s__law_joined_right) (defBody s__law_joined_right) (defScope s__law_joined_right) .none kV__law_joined_right dc__law_joined_right pm__law_joined_right an__law_joined_right cd__law_joined_right ct__law_joined_right), sl__law_joined_right⟩)
    (co__law_joined_right : PySem.W.codeIn K cd__law_joined_right "_law_joined_right" = true)
    (kp__law_joined_right : PySem.W.keepIn K (.ref f__law_joined_right) = true)
    (a_Mode : PySem.W.nsIn K mainGlobals "Mode" = some (some (.ref f_Mode)))
    (pg_Mode : PySem.W.plainGet K f_Mode Str.empty = true)
    (hd_Mode : PySem.W.hasDictIn K f_Mode = true)
    (po_Mode : PySem.W.plainOver K f_Mode = true)
    (sa_Mode : PySem.W.findIn K (.ref f_Mode) "__setattr__" = some (some (.builtin "object.__setattr__")))
    (n_number_Mode : PySem.W.findIn K (.ref f_Mode) "_number" = some none)
    (at_ModeD_initD : PySem.W.findIn K (.ref f_Mode) "__init__" = some (some (.ref f_ModeD_initD)))
    (fi_ModeD_initD : PySem.W.isFn K (.ref f_ModeD_initD) = true)
    (l_ModeD_initD : K.lookup f_ModeD_initD = some ⟨oc_ModeD_initD, od_ModeD_initD, .func (PySem.W.fnOf "__init__" "Mode.__init__" (defArgs s_ModeD_initD) (defBody s_ModeD_initD) (defScope s_ModeD_initD) .none kV_ModeD_initD dc_ModeD_initD pm_ModeD_initD an_ModeD_initD cd_ModeD_initD ct_ModeD_initD), sl_ModeD_initD⟩)
    (co_ModeD_initD : PySem.W.codeIn K cd_ModeD_initD "Mode.__init__" = true)
    (kp_ModeD_initD : PySem.W.keepIn K (.ref f_ModeD_initD) = true)
    (mk_Mode : PySem.W.makesIn K f_Mode = true)
    (kc_Mode : PySem.W.keepIn K (.ref f_Mode) = true)
    (at_Mode_number : PySem.W.findIn K (.ref f_Mode) "number" = some (some (.ref p_Mode_number)))
    (ge_Mode_number : PySem.W.specialIn K (.ref p_Mode_number) "__get__" = some (some (.builtin "property.__get__")))
    (ta_Mode_number : PySem.W.takesIn K (.ref p_Mode_number) = some true)
    (rc_Mode_number : PySem.W.recIn K p_Mode_number "property" = some (.ref f_Mode_number :: re_Mode_number))
    (l_Mode_number : K.lookup f_Mode_number = some ⟨oc_Mode_number, od_Mode_number, .func (PySem.W.fnOf "number" "Mode.number" (defArgs s_Mode_number) (defBody s_Mode_number) (defScope s_Mode_number) .none kV_Mode_number dc_Mode_number pm_Mode_number an_Mode_number cd_Mode_number ct_Mode_number), sl_Mode_number⟩)
    (co_Mode_number : PySem.W.codeIn K cd_Mode_number "Mode.number" = true)
    (kp_Mode_number : PySem.W.keepIn K (.ref f_Mode_number) = true)
    (at_ModeD_strD : PySem.W.findIn K (.ref f_Mode) "__str__" = some (some (.ref f_ModeD_strD)))
    (fi_ModeD_strD : PySem.W.isFn K (.ref f_ModeD_strD) = true)
    (l_ModeD_strD : K.lookup f_ModeD_strD = some ⟨oc_ModeD_strD, od_ModeD_strD, .func (PySem.W.fnOf "__str__" "Mode.__str__" (defArgs s_ModeD_strD) (defBody s_ModeD_strD) (defScope s_ModeD_strD) .none kV_ModeD_strD dc_ModeD_strD pm_ModeD_strD an_ModeD_strD cd_ModeD_strD ct_ModeD_strD), sl_ModeD_strD⟩)
    (co_ModeD_strD : PySem.W.codeIn K cd_ModeD_strD "Mode.__str__" = true)
    (kp_ModeD_strD : PySem.W.keepIn K (.ref f_ModeD_strD) = true)
    (at_ModeD_eqD : PySem.W.findIn K (.ref f_Mode) "__eq__" = some (some (.ref f_ModeD_eqD)))
    (fi_ModeD_eqD : PySem.W.isFn K (.ref f_ModeD_eqD) = true)
    (l_ModeD_eqD : K.lookup f_ModeD_eqD = some ⟨oc_ModeD_eqD, od_ModeD_eqD, .func (PySem.W.fnOf "__eq__" "Mode.__eq__" (defArgs s_ModeD_eqD) (defBody s_ModeD_eqD) (defScope s_ModeD_eqD) .none kV_ModeD_eqD dc_ModeD_eqD pm_ModeD_eqD an_ModeD_eqD cd_ModeD_eqD ct_ModeD_eqD), sl_ModeD_eqD⟩)
    (co_ModeD_eqD : PySem.W.codeIn K cd_ModeD_eqD "Mode.__eq__" = true)
    (kp_ModeD_eqD : PySem.W.keepIn K (.ref f_ModeD_eqD) = true)
    (rd_Mode : PySem.W.readsIn K f_Mode (.type "type") = true)
    (ga_Mode : PySem.W.specialIn K (.ref f_Mode) "__getattribute__" = some (some (.builtin "type.__getattribute__")))
    (cv_Mode_MOST : PySem.W.findCls K (.ref f_Mode) (.type "type") "MOST" = some (.val (.int 511 tk_Mode_MOST)))
    (at_Mode_uniform : PySem.W.findCls K (.ref f_Mode) (.type "type") "uniform" = some (.get (.builtin "staticmethod.__get__") (.ref p_Mode_uniform) .none (.ref f_Mode)))
    (rc_Mode_uniform : PySem.W.recIn K p_Mode_uniform "staticmethod" = some (.ref f_Mode_uniform :: re_Mode_uniform))
    (l_Mode_uniform : K.lookup f_Mode_uniform = some ⟨oc_Mode_uniform, od_Mode_uniform, .func (PySem.W.fnOf "uniform" "Mode.uniform" (defArgs s_Mode_uniform) (defBody s_Mode_uniform) (defScope s_Mode_uniform) .none kV_Mode_uniform dc_Mode_uniform pm_Mode_uniform an_Mode_uniform cd_Mode_uniform ct_Mode_uniform), sl_Mode_uniform⟩)
    (co_Mode_uniform : PySem.W.codeIn K cd_Mode_uniform "Mode.uniform" = true)
    (kp_Mode_uniform : PySem.W.keepIn K (.ref f_Mode_uniform) = true)
    (ia_Mode : PySem.W.findIn K (.ref f_Mode) "__class__" = some (some (.builtin "object.__class__")))
    (im_Mode : PySem.W.mroIn K f_Mode (.type "object") = some true)
    (ci_Mode : PySem.W.clsIn K f_Mode = some cd_Mode)
    (ti_Mode : PySem.W.typeIn K (.ref f_Mode) = some (.type "type"))
    (su_Mode : PySem.W.subIn K (.type "int") (.ref f_Mode) = some false)
    (a_Clause : PySem.W.nsIn K mainGlobals "Clause" = some (some (.ref f_Clause)))
    (pg_Clause : PySem.W.plainGet K f_Clause Str.empty = true)
    (hd_Clause : PySem.W.hasDictIn K f_Clause = true)
    (po_Clause : PySem.W.plainOver K f_Clause = true)
    (sa_Clause : PySem.W.findIn K (.ref f_Clause) "__setattr__" = some (some (.builtin "object.__setattr__")))
    (n_who_Clause : PySem.W.findIn K (.ref f_Clause) "_who" = some none)
    (n_sign_Clause : PySem.W.findIn K (.ref f_Clause) "_sign" = some none)
    (n_what_Clause : PySem.W.findIn K (.ref f_Clause) "_what" = some none)
    (n_tables_Clause : PySem.W.findIn K (.ref f_Clause) "_tables" = some none)
    (at_ClauseD_initD : PySem.W.findIn K (.ref f_Clause) "__init__" = some (some (.ref f_ClauseD_initD)))
    (fi_ClauseD_initD : PySem.W.isFn K (.ref f_ClauseD_initD) = true)
    (l_ClauseD_initD : K.lookup f_ClauseD_initD = some ⟨oc_ClauseD_initD, od_ClauseD_initD, .func (PySem.W.fnOf "__init__" "Clause.__init__" (defArgs s_ClauseD_initD) (defBody s_ClauseD_initD) (defScope s_ClauseD_initD) .none kV_ClauseD_initD dc_ClauseD_initD pm_ClauseD_initD an_ClauseD_initD cd_ClauseD_initD ct_ClauseD_initD), sl_ClauseD_initD⟩)
    (co_ClauseD_initD : PySem.W.codeIn K cd_ClauseD_initD "Clause.__init__" = true)
    (kp_ClauseD_initD : PySem.W.keepIn K (.ref f_ClauseD_initD) = true)
    (mk_Clause : PySem.W.makesIn K f_Clause = true)
    (kc_Clause : PySem.W.keepIn K (.ref f_Clause) = true)
    (at_Clause_who : PySem.W.findIn K (.ref f_Clause) "who" = some (some (.ref p_Clause_who)))
    (ge_Clause_who : PySem.W.specialIn K (.ref p_Clause_who) "__get__" = some (some (.builtin "property.__get__")))
    (ta_Clause_who : PySem.W.takesIn K (.ref p_Clause_who) = some true)
    (rc_Clause_who : PySem.W.recIn K p_Clause_who "property" = some (.ref f_Clause_who :: re_Clause_who))
    (l_Clause_who : K.lookup f_Clause_who = some ⟨oc_Clause_who, od_Clause_who, .func (PySem.W.fnOf "who" "Clause.who" (defArgs s_Clause_who) (defBody s_Clause_who) (defScope s_Clause_who) .none kV_Clause_who dc_Clause_who pm_Clause_who an_Clause_who cd_Clause_who ct_Clause_who), sl_Clause_who⟩)
    (co_Clause_who : PySem.W.codeIn K cd_Clause_who "Clause.who" = true)
    (kp_Clause_who : PySem.W.keepIn K (.ref f_Clause_who) = true)
    (at_Clause_sign : PySem.W.findIn K (.ref f_Clause) "sign" = some (some (.ref p_Clause_sign)))
    (ge_Clause_sign : PySem.W.specialIn K (.ref p_Clause_sign) "__get__" = some (some (.builtin "property.__get__")))
    (ta_Clause_sign : PySem.W.takesIn K (.ref p_Clause_sign) = some true)
    (rc_Clause_sign : PySem.W.recIn K p_Clause_sign "property" = some (.ref f_Clause_sign :: re_Clause_sign))
    (l_Clause_sign : K.lookup f_Clause_sign = some ⟨oc_Clause_sign, od_Clause_sign, .func (PySem.W.fnOf "sign" "Clause.sign" (defArgs s_Clause_sign) (defBody s_Clause_sign) (defScope s_Clause_sign) .none kV_Clause_sign dc_Clause_sign pm_Clause_sign an_Clause_sign cd_Clause_sign ct_Clause_sign), sl_Clause_sign⟩)
    (co_Clause_sign : PySem.W.codeIn K cd_Clause_sign "Clause.sign" = true)
    (kp_Clause_sign : PySem.W.keepIn K (.ref f_Clause_sign) = true)
    (at_Clause_what : PySem.W.findIn K (.ref f_Clause) "what" = some (some (.ref p_Clause_what)))
    (ge_Clause_what : PySem.W.specialIn K (.ref p_Clause_what) "__get__" = some (some (.builtin "property.__get__")))
    (ta_Clause_what : PySem.W.takesIn K (.ref p_Clause_what) = some true)
    (rc_Clause_what : PySem.W.recIn K p_Clause_what "property" = some (.ref f_Clause_what :: re_Clause_what))
    (l_Clause_what : K.lookup f_Clause_what = some ⟨oc_Clause_what, od_Clause_what, .func (PySem.W.fnOf "what" "Clause.what" (defArgs s_Clause_what) (defBody s_Clause_what) (defScope s_Clause_what) .none kV_Clause_what dc_Clause_what pm_Clause_what an_Clause_what cd_Clause_what ct_Clause_what), sl_Clause_what⟩)
    (co_Clause_what : PySem.W.codeIn K cd_Clause_what "Clause.what" = true)
    (kp_Clause_what : PySem.W.keepIn K (.ref f_Clause_what) = true)
    (at_ClauseD_eqD : PySem.W.findIn K (.ref f_Clause) "__eq__" = some (some (.ref f_ClauseD_eqD)))
    (fi_ClauseD_eqD : PySem.W.isFn K (.ref f_ClauseD_eqD) = true)
    (l_ClauseD_eqD : K.lookup f_ClauseD_eqD = some ⟨oc_ClauseD_eqD, od_ClauseD_eqD, .func (PySem.W.fnOf "__eq__" "Clause.__eq__" (defArgs s_ClauseD_eqD) (defBody s_ClauseD_eqD) (defScope s_ClauseD_eqD) .none kV_ClauseD_eqD dc_ClauseD_eqD pm_ClauseD_eqD an_ClauseD_eqD cd_ClauseD_eqD ct_ClauseD_eqD), sl_ClauseD_eqD⟩)
    (co_ClauseD_eqD : PySem.W.codeIn K cd_ClauseD_eqD "Clause.__eq__" = true)
    (kp_ClauseD_eqD : PySem.W.keepIn K (.ref f_ClauseD_eqD) = true)
    (at_ClauseD_callD : PySem.W.findIn K (.ref f_Clause) "__call__" = some (some (.ref f_ClauseD_callD)))
    (fi_ClauseD_callD : PySem.W.isFn K (.ref f_ClauseD_callD) = true)
    (fm_ClauseD_callD : PySem.W.fnIn K f_ClauseD_callD = true)
    (l_ClauseD_callD : K.lookup f_ClauseD_callD = some ⟨oc_ClauseD_callD, od_ClauseD_callD, .func (PySem.W.fnOf "__call__" "Clause.__call__" (defArgs s_ClauseD_callD) (defBody s_ClauseD_callD) (defScope s_ClauseD_callD) .none kV_ClauseD_callD dc_ClauseD_callD pm_ClauseD_callD an_ClauseD_callD cd_ClauseD_callD ct_ClauseD_callD), sl_ClauseD_callD⟩)
    (co_ClauseD_callD : PySem.W.codeIn K cd_ClauseD_callD "Clause.__call__" = true)
    (kp_ClauseD_callD : PySem.W.keepIn K (.ref f_ClauseD_callD) = true)
    (at_Clause_read : PySem.W.findCls K (.ref f_Clause) (.type "type") "read" = some (.get (.builtin "classmethod.__get__") (.ref p_Clause_read) .none (.ref f_Clause)))
    (rc_Clause_read : PySem.W.recIn K p_Clause_read "classmethod" = some (.ref f_Clause_read :: re_Clause_read))
    (fm_Clause_read : PySem.W.fnIn K f_Clause_read = true)
    (l_Clause_read : K.lookup f_Clause_read = some ⟨oc_Clause_read, od_Clause_read, .func (PySem.W.fnOf "read" "Clause.read" (defArgs s_Clause_read) (defBody s_Clause_read) (defScope s_Clause_read) .none kV_Clause_read dc_Clause_read pm_Clause_read an_Clause_read cd_Clause_read ct_Clause_read), sl_Clause_read⟩)
    (co_Clause_read : PySem.W.codeIn K cd_Clause_read "Clause.read" = true)
    (kp_Clause_read : PySem.W.keepIn K (.ref f_Clause_read) = true)
    (rd_Clause : PySem.W.readsIn K f_Clause (.type "type") = true)
    (ga_Clause : PySem.W.specialIn K (.ref f_Clause) "__getattribute__" = some (some (.builtin "type.__getattribute__")))
    (ia_Clause : PySem.W.findIn K (.ref f_Clause) "__class__" = some (some (.builtin "object.__class__")))
    (im_Clause : PySem.W.mroIn K f_Clause (.type "object") = some true)
    (ci_Clause : PySem.W.clsIn K f_Clause = some cd_Clause)
    (ti_Clause : PySem.W.typeIn K (.ref f_Clause) = some (.type "type"))
    (su_Clause : PySem.W.subIn K (.type "int") (.ref f_Clause) = some false)
    (a_Change : PySem.W.nsIn K mainGlobals "Change" = some (some (.ref f_Change)))
    (pg_Change : PySem.W.plainGet K f_Change Str.empty = true)
    (hd_Change : PySem.W.hasDictIn K f_Change = true)
    (po_Change : PySem.W.plainOver K f_Change = true)
    (sa_Change : PySem.W.findIn K (.ref f_Change) "__setattr__" = some (some (.builtin "object.__setattr__")))
    (n_clauses_Change : PySem.W.findIn K (.ref f_Change) "_clauses" = some none)
    (n_tables_Change : PySem.W.findIn K (.ref f_Change) "_tables" = some none)
    (at_ChangeD_initD : PySem.W.findIn K (.ref f_Change) "__init__" = some (some (.ref f_ChangeD_initD)))
    (fi_ChangeD_initD : PySem.W.isFn K (.ref f_ChangeD_initD) = true)
    (l_ChangeD_initD : K.lookup f_ChangeD_initD = some ⟨oc_ChangeD_initD, od_ChangeD_initD, .func (PySem.W.fnOf "__init__" "Change.__init__" (defArgs s_ChangeD_initD) (defBody s_ChangeD_initD) (defScope s_ChangeD_initD) .none kV_ChangeD_initD dc_ChangeD_initD pm_ChangeD_initD an_ChangeD_initD cd_ChangeD_initD ct_ChangeD_initD), sl_ChangeD_initD⟩)
    (co_ChangeD_initD : PySem.W.codeIn K cd_ChangeD_initD "Change.__init__" = true)
    (kp_ChangeD_initD : PySem.W.keepIn K (.ref f_ChangeD_initD) = true)
    (mk_Change : PySem.W.makesIn K f_Change = true)
    (kc_Change : PySem.W.keepIn K (.ref f_Change) = true)
    (at_Change_clauses : PySem.W.findIn K (.ref f_Change) "clauses" = some (some (.ref p_Change_clauses)))
    (ge_Change_clauses : PySem.W.specialIn K (.ref p_Change_clauses) "__get__" = some (some (.builtin "property.__get__")))
    (ta_Change_clauses : PySem.W.takesIn K (.ref p_Change_clauses) = some true)
    (rc_Change_clauses : PySem.W.recIn K p_Change_clauses "property" = some (.ref f_Change_clauses :: re_Change_clauses))
    (l_Change_clauses : K.lookup f_Change_clauses = some ⟨oc_Change_clauses, od_Change_clauses, .func (PySem.W.fnOf "clauses" "Change.clauses" (defArgs s_Change_clauses) (defBody s_Change_clauses) (defScope s_Change_clauses) .none kV_Change_clauses dc_Change_clauses pm_Change_clauses an_Change_clauses cd_Change_clauses ct_Change_clauses), sl_Change_clauses⟩)
    (co_Change_clauses : PySem.W.codeIn K cd_Change_clauses "Change.clauses" = true)
    (kp_Change_clauses : PySem.W.keepIn K (.ref f_Change_clauses) = true)
    (at_Change_tables : PySem.W.findIn K (.ref f_Change) "tables" = some (some (.ref p_Change_tables)))
    (ge_Change_tables : PySem.W.specialIn K (.ref p_Change_tables) "__get__" = some (some (.builtin "property.__get__")))
    (ta_Change_tables : PySem.W.takesIn K (.ref p_Change_tables) = some true)
    (rc_Change_tables : PySem.W.recIn K p_Change_tables "property" = some (.ref f_Change_tables :: re_Change_tables))
    (l_Change_tables : K.lookup f_Change_tables = some ⟨oc_Change_tables, od_Change_tables, .func (PySem.W.fnOf "tables" "Change.tables" (defArgs s_Change_tables) (defBody s_Change_tables) (defScope s_Change_tables) .none kV_Change_tables dc_Change_tables pm_Change_tables an_Change_tables cd_Change_tables ct_Change_tables), sl_Change_tables⟩)
    (co_Change_tables : PySem.W.codeIn K cd_Change_tables "Change.tables" = true)
    (kp_Change_tables : PySem.W.keepIn K (.ref f_Change_tables) = true)
    (at_Change_like : PySem.W.findIn K (.ref f_Change) "like" = some (some (.ref f_Change_like)))
    (fi_Change_like : PySem.W.isFn K (.ref f_Change_like) = true)
    (l_Change_like : K.lookup f_Change_like = some ⟨oc_Change_like, od_Change_like, .func (PySem.W.fnOf "like" "Change.like" (defArgs s_Change_like) (defBody s_Change_like) (defScope s_Change_like) .none kV_Change_like dc_Change_like pm_Change_like an_Change_like cd_Change_like ct_Change_like), sl_Change_like⟩)
    (co_Change_like : PySem.W.codeIn K cd_Change_like "Change.like" = true)
    (kp_Change_like : PySem.W.keepIn K (.ref f_Change_like) = true)
    (at_ChangeD_mulD : PySem.W.findIn K (.ref f_Change) "__mul__" = some (some (.ref f_ChangeD_mulD)))
    (fi_ChangeD_mulD : PySem.W.isFn K (.ref f_ChangeD_mulD) = true)
    (l_ChangeD_mulD : K.lookup f_ChangeD_mulD = some ⟨oc_ChangeD_mulD, od_ChangeD_mulD, .func (PySem.W.fnOf "__mul__" "Change.__mul__" (defArgs s_ChangeD_mulD) (defBody s_ChangeD_mulD) (defScope s_ChangeD_mulD) .none kV_ChangeD_mulD dc_ChangeD_mulD pm_ChangeD_mulD an_ChangeD_mulD cd_ChangeD_mulD ct_ChangeD_mulD), sl_ChangeD_mulD⟩)
    (co_ChangeD_mulD : PySem.W.codeIn K cd_ChangeD_mulD "Change.__mul__" = true)
    (kp_ChangeD_mulD : PySem.W.keepIn K (.ref f_ChangeD_mulD) = true)
    (at_ChangeD_eqD : PySem.W.findIn K (.ref f_Change) "__eq__" = some (some (.ref f_ChangeD_eqD)))
    (fi_ChangeD_eqD : PySem.W.isFn K (.ref f_ChangeD_eqD) = true)
    (l_ChangeD_eqD : K.lookup f_ChangeD_eqD = some ⟨oc_ChangeD_eqD, od_ChangeD_eqD, .func (PySem.W.fnOf "__eq__" "Change.__eq__" (defArgs s_ChangeD_eqD) (defBody s_ChangeD_eqD) (defScope s_ChangeD_eqD) .none kV_ChangeD_eqD dc_ChangeD_eqD pm_ChangeD_eqD an_ChangeD_eqD cd_ChangeD_eqD ct_ChangeD_eqD), sl_ChangeD_eqD⟩)
    (co_ChangeD_eqD : PySem.W.codeIn K cd_ChangeD_eqD "Change.__eq__" = true)
    (kp_ChangeD_eqD : PySem.W.keepIn K (.ref f_ChangeD_eqD) = true)
    (rd_Change : PySem.W.readsIn K f_Change (.type "type") = true)
    (ga_Change : PySem.W.specialIn K (.ref f_Change) "__getattribute__" = some (some (.builtin "type.__getattribute__")))
    (cv_Change_MOST : PySem.W.findCls K (.ref f_Change) (.type "type") "MOST" = some (.val (.int 8 tk_Change_MOST)))
    (at_ChangeD_callD : PySem.W.findIn K (.ref f_Change) "__call__" = some (some (.ref f_ChangeD_callD)))
    (fi_ChangeD_callD : PySem.W.isFn K (.ref f_ChangeD_callD) = true)
    (fm_ChangeD_callD : PySem.W.fnIn K f_ChangeD_callD = true)
    (l_ChangeD_callD : K.lookup f_ChangeD_callD = some ⟨oc_ChangeD_callD, od_ChangeD_callD, .func (PySem.W.fnOf "__call__" "Change.__call__" (defArgs s_ChangeD_callD) (defBody s_ChangeD_callD) (defScope s_ChangeD_callD) .none kV_ChangeD_callD dc_ChangeD_callD pm_ChangeD_callD an_ChangeD_callD cd_ChangeD_callD ct_ChangeD_callD), sl_ChangeD_callD⟩)
    (co_ChangeD_callD : PySem.W.codeIn K cd_ChangeD_callD "Change.__call__" = true)
    (kp_ChangeD_callD : PySem.W.keepIn K (.ref f_ChangeD_callD) = true)
    (at_Change_read : PySem.W.findCls K (.ref f_Change) (.type "type") "read" = some (.get (.builtin "classmethod.__get__") (.ref p_Change_read) .none (.ref f_Change)))
    (rc_Change_read : PySem.W.recIn K p_Change_read "classmethod" = some (.ref f_Change_read :: re_Change_read))
    (fm_Change_read : PySem.W.fnIn K f_Change_read = true)
    (l_Change_read : K.lookup f_Change_read = some ⟨oc_Change_read, od_Change_read, .func (PySem.W.fnOf "read" "Change.read" (defArgs s_Change_read) (defBody s_Change_read) (defScope s_Change_read) .none kV_Change_read dc_Change_read pm_Change_read an_Change_read cd_Change_read ct_Change_read), sl_Change_read⟩)
    (co_Change_read : PySem.W.codeIn K cd_Change_read "Change.read" = true)
    (kp_Change_read : PySem.W.keepIn K (.ref f_Change_read) = true)
    (ia_Change : PySem.W.findIn K (.ref f_Change) "__class__" = some (some (.builtin "object.__class__")))
    (im_Change : PySem.W.mroIn K f_Change (.type "object") = some true)
    (ci_Change : PySem.W.clsIn K f_Change = some cd_Change)
    (ti_Change : PySem.W.typeIn K (.ref f_Change) = some (.type "type"))
    (su_Change : PySem.W.subIn K (.type "int") (.ref f_Change) = some false)
    (in0 : PySem.W.specialIn K (.builtin "object.__class__") "__get__" = some (some (.builtin "getset_descriptor.__get__")))
    (it0 : PySem.W.takesIn K (.builtin "object.__class__") = some true)
    (a_SIGNS : PySem.W.nsIn K mainGlobals "SIGNS" = some (some (.ref k_SIGNS)))
    (lt_SIGNS : K.lookup k_SIGNS = some ⟨.type "tuple", tod_SIGNS, .seq its_SIGNS tn_SIGNS, tsl_SIGNS⟩)
    (sz_SIGNS : its_SIGNS.size ≤ sizeLine)
    (vl_SIGNS : Vals [.str "+", .str "-", .str "="] its_SIGNS.toList)
    (a_PATTERNS : PySem.W.nsIn K mainGlobals "PATTERNS" = some (some (.ref k_PATTERNS)))
    (lt_PATTERNS : K.lookup k_PATTERNS = some ⟨.type "tuple", tod_PATTERNS, .seq its_PATTERNS tn_PATTERNS, tsl_PATTERNS⟩)
    (sz_PATTERNS : its_PATTERNS.size ≤ sizeLine)
    (vl_PATTERNS : Vals ([0, 1, 2, 3, 4, 5, 6, 7].map V.int) its_PATTERNS.toList)
    (a_NINE_BITS : PySem.W.nsIn K mainGlobals "NINE_BITS" = some (some (.ref k_NINE_BITS)))
    (lt_NINE_BITS : K.lookup k_NINE_BITS = some ⟨.type "tuple", tod_NINE_BITS, .seq its_NINE_BITS tn_NINE_BITS, tsl_NINE_BITS⟩)
    (sz_NINE_BITS : its_NINE_BITS.size ≤ sizeLine)
    (vl_NINE_BITS : Vals ([256, 128, 64, 32, 16, 8, 4, 2, 1].map V.int) its_NINE_BITS.toList)
    (a_NINE_SIGNS : PySem.W.nsIn K mainGlobals "NINE_SIGNS" = some (some (.str "rwxrwxrwx" tk_NS)))
    (a_PARTS : PySem.W.nsIn K mainGlobals "PARTS" = some (some (.ref k_PARTS)))
    (lt_PARTS : K.lookup k_PARTS = some ⟨.type "tuple", tod_PARTS, .seq its_PARTS tn_PARTS, tsl_PARTS⟩)
    (sz_PARTS : its_PARTS.size ≤ sizeLine)
    (vl_PARTS : Vals [.ref k_P1, .ref k_P2, .ref k_P3, .ref k_P4] its_PARTS.toList)
    (lt_P1 : K.lookup k_P1 = some ⟨.type "tuple", tod_P1, .seq its_P1 tn_P1, tsl_P1⟩)
    (sz_P1 : its_P1.size ≤ sizeLine)
    (vl_P1 : Vals [.str "r", .str "file"] its_P1.toList)
    (lt_P2 : K.lookup k_P2 = some ⟨.type "tuple", tod_P2, .seq its_P2 tn_P2, tsl_P2⟩)
    (sz_P2 : its_P2.size ≤ sizeLine)
    (vl_P2 : Vals [.str "w", .str "file"] its_P2.toList)
    (lt_P3 : K.lookup k_P3 = some ⟨.type "tuple", tod_P3, .seq its_P3 tn_P3, tsl_P3⟩)
    (sz_P3 : its_P3.size ≤ sizeLine)
    (vl_P3 : Vals [.str "x", .str "file"] its_P3.toList)
    (lt_P4 : K.lookup k_P4 = some ⟨.type "tuple", tod_P4, .seq its_P4 tn_P4, tsl_P4⟩)
    (sz_P4 : its_P4.size ≤ sizeLine)
    (vl_P4 : Vals [.str "x", .str "folder"] its_P4.toList)
    (a_BadClause : PySem.W.nsIn K mainGlobals "BadClause" = some (some (.ref x_BadClause)))
    (nf_Mode : PySem.W.notFirst K f_Mode (.ref f_Mode) = true)
    (sf_Change : PySem.W.selfFirst K f_Change = true)
    (ne_Mode : PySem.W.findIn K (.ref f_Mode) "__ne__" = some (some (.builtin "object.__ne__")))
    (a_CLASSES : PySem.W.nsIn K mainGlobals "CLASSES" = some (some (.ref k_CLASSES)))
    (ld_CL : K.lookup k_CLASSES = some ⟨.type "dict", none, .dict es_CL n_CL, #[]⟩)
    (kl_CL : PySem.W.KeysLit w.params es_CL.toList)
    (lw_CL : (k_CLASSES == sysModules) = false)
    (eu_CL : PySem.W.nsIn K k_CLASSES "u" = some (some (.int 4 tku)))
    (eg_CL : PySem.W.nsIn K k_CLASSES "g" = some (some (.int 2 tkg)))
    (eo_CL : PySem.W.nsIn K k_CLASSES "o" = some (some (.int 1 tko)))
    (w0_CL : PySem.W.nsIn K k_CLASSES "r" = some none)
    (w1_CL : PySem.W.nsIn K k_CLASSES "w" = some none)
    (w2_CL : PySem.W.nsIn K k_CLASSES "x" = some none)
    (w3_CL : PySem.W.nsIn K k_CLASSES "X" = some none)
    (w4_CL : PySem.W.nsIn K k_CLASSES "rX" = some none)
    (w5_CL : PySem.W.nsIn K k_CLASSES "rwx" = some none)
    (w6_CL : PySem.W.nsIn K k_CLASSES "rwX" = some none)
    (w7_CL : PySem.W.nsIn K k_CLASSES "wx" = some none)
    (w8_CL : PySem.W.nsIn K k_CLASSES "rx" = some none)
    (w9_CL : PySem.W.nsIn K k_CLASSES "" = some none)
    (w10_CL : PySem.W.nsIn K k_CLASSES "xX" = some none)
    (w11_CL : PySem.W.nsIn K k_CLASSES "rwxX" = some none)
    (a_FORMS : PySem.W.nsIn K mainGlobals "FORMS" = some (some (.ref k_FORMS)))
    (lt_FORMS : K.lookup k_FORMS = some ⟨.type "tuple", tod_FORMS, .seq its_FORMS tn_FORMS, tsl_FORMS⟩)
    (sz_FORMS : its_FORMS.size ≤ sizeLine)
    (vl_FORMS : Vals [.str "file", .str "folder"] its_FORMS.toList)
    : ∃ fd : FuncData, (∀ (s : Shared) (v : Value), BindsTo s fd ⟨[v], []⟩ [("_law_script", v)]) ∧ ∀ base : Heap, K.In base → base.Ns mainGlobals mg → RunAt l.prog w K mg base callerA fa fd ["_law_script"] (spLaw K) := by
  have e := hfa.symm.trans (PySem.W.mg_of X G a_law)
  obtain rfl : f_law = fa := by cases e; rfl
  have T : Txt w K mg { f_is_whole := f_is_whole, d_is_whole := PySem.W.fnOf "is_whole" "is_whole" (defArgs s_is_whole) (defBody s_is_whole) (defScope s_is_whole) .none kV_is_whole dc_is_whole pm_is_whole an_is_whole cd_is_whole ct_is_whole, f_is_whole_to := f_is_whole_to, d_is_whole_to := PySem.W.fnOf "is_whole_to" "is_whole_to" (defArgs s_is_whole_to) (defBody s_is_whole_to) (defScope s_is_whole_to) .none kV_is_whole_to dc_is_whole_to pm_is_whole_to an_is_whole_to cd_is_whole_to ct_is_whole_to, f_is_choice := f_is_choice, d_is_choice := PySem.W.fnOf "is_choice" "is_choice" (defArgs s_is_choice) (defBody s_is_choice) (defScope s_is_choice) .none kV_is_choice dc_is_choice pm_is_choice an_is_choice cd_is_choice ct_is_choice, f_pattern_in := f_pattern_in, d_pattern_in := PySem.W.fnOf "pattern_in" "pattern_in" (defArgs s_pattern_in) (defBody s_pattern_in) (defScope s_pattern_in) .none kV_pattern_in dc_pattern_in pm_pattern_in an_pattern_in cd_pattern_in ct_pattern_in, f_bits_of := f_bits_of, d_bits_of := PySem.W.fnOf "bits_of" "bits_of" (defArgs s_bits_of) (defBody s_bits_of) (defScope s_bits_of) .none kV_bits_of dc_bits_of pm_bits_of an_bits_of cd_bits_of ct_bits_of, f_number_of := f_number_of, d_number_of := PySem.W.fnOf "number_of" "number_of" (defArgs s_number_of) (defBody s_number_of) (defScope s_number_of) .none kV_number_of dc_number_of pm_number_of an_number_of cd_number_of ct_number_of, f_is_meant := f_is_meant, d_is_meant := PySem.W.fnOf "is_meant" "is_meant" (defArgs s_is_meant) (defBody s_is_meant) (defScope s_is_meant) .none kV_is_meant dc_is_meant pm_is_meant an_is_meant cd_is_meant ct_is_meant, f_pattern_behind := f_pattern_behind, d_pattern_behind := PySem.W.fnOf "pattern_behind" "pattern_behind" (defArgs s_pattern_behind) (defBody s_pattern_behind) (defScope s_pattern_behind) .none kV_pattern_behind dc_pattern_behind pm_pattern_behind an_pattern_behind cd_pattern_behind ct_pattern_behind, f_part_of := f_part_of, d_part_of := PySem.W.fnOf "part_of" "part_of" (defArgs s_part_of) (defBody s_part_of) (defScope s_part_of) .none kV_part_of dc_part_of pm_part_of an_part_of cd_part_of ct_part_of, f_parts_for := f_parts_for, d_parts_for := PySem.W.fnOf "parts_for" "parts_for" (defArgs s_parts_for) (defBody s_parts_for) (defScope s_parts_for) .none kV_parts_for dc_parts_for pm_parts_for an_parts_for cd_parts_for ct_parts_for, f_number_behind := f_number_behind, d_number_behind := PySem.W.fnOf "number_behind" "number_behind" (defArgs s_number_behind) (defBody s_number_behind) (defScope s_number_behind) .none kV_number_behind dc_number_behind pm_number_behind an_number_behind cd_number_behind ct_number_behind, f__law_pen := f__law_pen, d__law_pen := PySem.W.fnOf "_law_pen" "_law_pen" (defArgs s__law_pen) (defBody s__law_pen) (defScope s__law_pen) .none kV__law_pen dc__law_pen pm__law_pen an__law_pen cd__law_pen ct__law_pen, f__law_draw := f__law_draw, d__law_draw := PySem.W.fnOf "_law_draw" "_law_draw" (defArgs s__law_draw) (defBody s__law_draw) (defScope s__law_draw) .none kV__law_draw dc__law_draw pm__law_draw an__law_draw cd__law_draw ct__law_draw, f__law_pick := f__law_pick, d__law_pick := PySem.W.fnOf "_law_pick" "_law_pick" (defArgs s__law_pick) (defBody s__law_pick) (defScope s__law_pick) .none kV__law_pick dc__law_pick pm__law_pick an__law_pick cd__law_pick ct__law_pick, f__law_clause := f__law_clause, d__law_clause := PySem.W.fnOf "_law_clause" "_law_clause" (defArgs s__law_clause) (defBody s__law_clause) (defScope s__law_clause) .none kV__law_clause dc__law_clause pm__law_clause an__law_clause cd__law_clause ct__law_clause, f__law_clause_done := f__law_clause_done, d__law_clause_done := PySem.W.fnOf "_law_clause_done" "_law_clause_done" (defArgs s__law_clause_done) (defBody s__law_clause_done) (defScope s__law_clause_done) .none kV__law_clause_done dc__law_clause_done pm__law_clause_done an__law_clause_done cd__law_clause_done ct__law_clause_done, f_law := f_law, d_law := PySem.W.fnOf "law" "law" (defArgs s_law) (defBody s_law) (defScope s_law) .none kV_law dc_law pm_law an_law cd_law ct_law, f_in_turn := f_in_turn, d_in_turn := PySem.W.fnOf "in_turn" "in_turn" (defArgs s_in_turn) (defBody s_in_turn) (defScope s_in_turn) .none kV_in_turn dc_in_turn pm_in_turn an_in_turn cd_in_turn ct_in_turn, f_tables_of := f_tables_of, d_tables_of := PySem.W.fnOf "tables_of" "tables_of" (defArgs s_tables_of) (defBody s_tables_of) (defScope s_tables_of) .none kV_tables_of dc_tables_of pm_tables_of an_tables_of cd_tables_of ct_tables_of, f_parting := f_parting, d_parting := PySem.W.fnOf "parting" "parting" (defArgs s_parting) (defBody s_parting) (defScope s_parting) .none kV_parting dc_parting pm_parting an_parting cd_parting ct_parting, f__law_text := f__law_text, d__law_text := PySem.W.fnOf "_law_text" "_law_text" (defArgs s__law_text) (defBody s__law_text) (defScope s__law_text) .none kV__law_text dc__law_text pm__law_text an__law_text cd__law_text ct__law_text, f__law_change := f__law_change, d__law_change := PySem.W.fnOf "_law_change" "_law_change" (defArgs s__law_change) (defBody s__law_change) (defScope s__law_change) .none kV__law_change dc__law_change pm__law_change an__law_change cd__law_change ct__law_change, f__law_change_text := f__law_change_text, d__law_change_text := PySem.W.fnOf "_law_change_text" "_law_change_text" (defArgs s__law_change_text) (defBody s__law_change_text) (defScope s__law_change_text) .none kV__law_change_text dc__law_change_text pm__law_change_text an__law_change_text cd__law_change_text ct__law_change_text, f__law_change_done := f__law_change_done, d__law_change_done := PySem.W.fnOf "_law_change_done" "_law_change_done" (defArgs s__law_change_done) (defBody s__law_change_done) (defScope s__law_change_done) .none kV__law_change_done dc__law_change_done pm__law_change_done an__law_change_done cd__law_change_done ct__law_change_done, f__law_again := f__law_again, d__law_again := PySem.W.fnOf "_law_again" "_law_again" (defArgs s__law_again) (defBody s__law_again) (defScope s__law_again) .none kV__law_again dc__law_again pm__law_again an__law_again cd__law_again ct__law_again, f__law_parting := f__law_parting, d__law_parting := PySem.W.fnOf "_law_parting" "_law_parting" (defArgs s__law_parting) (defBody s__law_parting) (defScope s__law_parting) .none kV__law_parting dc__law_parting pm__law_parting an__law_parting cd__law_parting ct__law_parting, f__law_joined_right := f__law_joined_right, d__law_joined_right := PySem.W.fnOf "_law_joined_right" "_law_joined_right" (defArgs s__law_joined_right) (defBody s__law_joined_right) (defScope s__law_joined_right) .none kV__law_joined_right dc__law_joined_right pm__law_joined_right an__law_joined_right cd__law_joined_right ct__law_joined_right, f_Mode := f_Mode, f_ModeD_initD := f_ModeD_initD, d_ModeD_initD := PySem.W.fnOf "__init__" "Mode.__init__" (defArgs s_ModeD_initD) (defBody s_ModeD_initD) (defScope s_ModeD_initD) .none kV_ModeD_initD dc_ModeD_initD pm_ModeD_initD an_ModeD_initD cd_ModeD_initD ct_ModeD_initD, f_Mode_number := f_Mode_number, d_Mode_number := PySem.W.fnOf "number" "Mode.number" (defArgs s_Mode_number) (defBody s_Mode_number) (defScope s_Mode_number) .none kV_Mode_number dc_Mode_number pm_Mode_number an_Mode_number cd_Mode_number ct_Mode_number, p_Mode_number := p_Mode_number, f_ModeD_strD := f_ModeD_strD, d_ModeD_strD := PySem.W.fnOf "__str__" "Mode.__str__" (defArgs s_ModeD_strD) (defBody s_ModeD_strD) (defScope s_ModeD_strD) .none kV_ModeD_strD dc_ModeD_strD pm_ModeD_strD an_ModeD_strD cd_ModeD_strD ct_ModeD_strD, f_ModeD_eqD := f_ModeD_eqD, d_ModeD_eqD := PySem.W.fnOf "__eq__" "Mode.__eq__" (defArgs s_ModeD_eqD) (defBody s_ModeD_eqD) (defScope s_ModeD_eqD) .none kV_ModeD_eqD dc_ModeD_eqD pm_ModeD_eqD an_ModeD_eqD cd_ModeD_eqD ct_ModeD_eqD, f_Mode_uniform := f_Mode_uniform, d_Mode_uniform := PySem.W.fnOf "uniform" "Mode.uniform" (defArgs s_Mode_uniform) (defBody s_Mode_uniform) (defScope s_Mode_uniform) .none kV_Mode_uniform dc_Mode_uniform pm_Mode_uniform an_Mode_uniform cd_Mode_uniform ct_Mode_uniform, p_Mode_uniform := p_Mode_uniform, f_Clause := f_Clause, f_ClauseD_initD := f_ClauseD_initD, d_ClauseD_initD := PySem.W.fnOf "__init__" "Clause.__init__" (defArgs s_ClauseD_initD) (defBody s_ClauseD_initD) (defScope s_ClauseD_initD) .none kV_ClauseD_initD dc_ClauseD_initD pm_ClauseD_initD an_ClauseD_initD cd_ClauseD_initD ct_ClauseD_initD, f_Clause_who := f_Clause_who, d_Clause_who := PySem.W.fnOf "who" "Clause.who" (defArgs s_Clause_who) (defBody s_Clause_who) (defScope s_Clause_who) .none kV_Clause_who dc_Clause_who pm_Clause_who an_Clause_who cd_Clause_who ct_Clause_who, p_Clause_who := p_Clause_who, f_Clause_sign := f_Clause_sign, d_Clause_sign := PySem.W.fnOf "sign" "Clause.sign" (defArgs s_Clause_sign) (defBody s_Clause_sign) (defScope s_Clause_sign) .none kV_Clause_sign dc_Clause_sign pm_Clause_sign an_Clause_sign cd_Clause_sign ct_Clause_sign, p_Clause_sign := p_Clause_sign, f_Clause_what := f_Clause_what, d_Clause_what := PySem.W.fnOf "what" "Clause.what" (defArgs s_Clause_what) (defBody s_Clause_what) (defScope s_Clause_what) .none kV_Clause_what dc_Clause_what pm_Clause_what an_Clause_what cd_Clause_what ct_Clause_what, p_Clause_what := p_Clause_what, f_ClauseD_eqD := f_ClauseD_eqD, d_ClauseD_eqD := PySem.W.fnOf "__eq__" "Clause.__eq__" (defArgs s_ClauseD_eqD) (defBody s_ClauseD_eqD) (defScope s_ClauseD_eqD) .none kV_ClauseD_eqD dc_ClauseD_eqD pm_ClauseD_eqD an_ClauseD_eqD cd_ClauseD_eqD ct_ClauseD_eqD, f_ClauseD_callD := f_ClauseD_callD, d_ClauseD_callD := PySem.W.fnOf "__call__" "Clause.__call__" (defArgs s_ClauseD_callD) (defBody s_ClauseD_callD) (defScope s_ClauseD_callD) .none kV_ClauseD_callD dc_ClauseD_callD pm_ClauseD_callD an_ClauseD_callD cd_ClauseD_callD ct_ClauseD_callD, f_Clause_read := f_Clause_read, d_Clause_read := PySem.W.fnOf "read" "Clause.read" (defArgs s_Clause_read) (defBody s_Clause_read) (defScope s_Clause_read) .none kV_Clause_read dc_Clause_read pm_Clause_read an_Clause_read cd_Clause_read ct_Clause_read, p_Clause_read := p_Clause_read, f_Change := f_Change, f_ChangeD_initD := f_ChangeD_initD, d_ChangeD_initD := PySem.W.fnOf "__init__" "Change.__init__" (defArgs s_ChangeD_initD) (defBody s_ChangeD_initD) (defScope s_ChangeD_initD) .none kV_ChangeD_initD dc_ChangeD_initD pm_ChangeD_initD an_ChangeD_initD cd_ChangeD_initD ct_ChangeD_initD, f_Change_clauses := f_Change_clauses, d_Change_clauses := PySem.W.fnOf "clauses" "Change.clauses" (defArgs s_Change_clauses) (defBody s_Change_clauses) (defScope s_Change_clauses) .none kV_Change_clauses dc_Change_clauses pm_Change_clauses an_Change_clauses cd_Change_clauses ct_Change_clauses, p_Change_clauses := p_Change_clauses, f_Change_tables := f_Change_tables, d_Change_tables := PySem.W.fnOf "tables" "Change.tables" (defArgs s_Change_tables) (defBody s_Change_tables) (defScope s_Change_tables) .none kV_Change_tables dc_Change_tables pm_Change_tables an_Change_tables cd_Change_tables ct_Change_tables, p_Change_tables := p_Change_tables, f_Change_like := f_Change_like, d_Change_like := PySem.W.fnOf "like" "Change.like" (defArgs s_Change_like) (defBody s_Change_like) (defScope s_Change_like) .none kV_Change_like dc_Change_like pm_Change_like an_Change_like cd_Change_like ct_Change_like, f_ChangeD_mulD := f_ChangeD_mulD, d_ChangeD_mulD := PySem.W.fnOf "__mul__" "Change.__mul__" (defArgs s_ChangeD_mulD) (defBody s_ChangeD_mulD) (defScope s_ChangeD_mulD) .none kV_ChangeD_mulD dc_ChangeD_mulD pm_ChangeD_mulD an_ChangeD_mulD cd_ChangeD_mulD ct_ChangeD_mulD, f_ChangeD_eqD := f_ChangeD_eqD, d_ChangeD_eqD := PySem.W.fnOf "__eq__" "Change.__eq__" (defArgs s_ChangeD_eqD) (defBody s_ChangeD_eqD) (defScope s_ChangeD_eqD) .none kV_ChangeD_eqD dc_ChangeD_eqD pm_ChangeD_eqD an_ChangeD_eqD cd_ChangeD_eqD ct_ChangeD_eqD, f_ChangeD_callD := f_ChangeD_callD, d_ChangeD_callD := PySem.W.fnOf "__call__" "Change.__call__" (defArgs s_ChangeD_callD) (defBody s_ChangeD_callD) (defScope s_ChangeD_callD) .none kV_ChangeD_callD dc_ChangeD_callD pm_ChangeD_callD an_ChangeD_callD cd_ChangeD_callD ct_ChangeD_callD, f_Change_read := f_Change_read, d_Change_read := PySem.W.fnOf "read" "Change.read" (defArgs s_Change_read) (defBody s_Change_read) (defScope s_Change_read) .none kV_Change_read dc_Change_read pm_Change_read an_Change_read cd_Change_read ct_Change_read, p_Change_read := p_Change_read, k_SIGNS := k_SIGNS, k_PATTERNS := k_PATTERNS, k_NINE_BITS := k_NINE_BITS, k_PARTS := k_PARTS, x_BadClause := x_BadClause, k_CLASSES := k_CLASSES, k_FORMS := k_FORMS } := {
    b_isinstance := PySem.W.mg_none_of X G z_isinstance,
    b_int := PySem.W.mg_none_of X G z_int,
    b_bool := PySem.W.mg_none_of X G z_bool,
    b_str := PySem.W.mg_none_of X G z_str,
    b_sum := PySem.W.mg_none_of X G z_sum,
    b_tuple := PySem.W.mg_none_of X G z_tuple,
    b_zip := PySem.W.mg_none_of X G z_zip,
    b_list := PySem.W.mg_none_of X G z_list,
    b_len := PySem.W.mg_none_of X G z_len,
    b_abs := PySem.W.mg_none_of X G z_abs,
    b_range := PySem.W.mg_none_of X G z_range,
    b_dict := PySem.W.mg_none_of X G z_dict,
    b_enumerate := PySem.W.mg_none_of X G z_enumerate,
    b_repr := PySem.W.mg_none_of X G z_repr,
    mg_is_whole := PySem.W.mg_of X G a_is_whole,
    fn_is_whole := fun_mk (st := s_is_whole) l_is_whole co_is_whole kp_is_whole,
    mg_is_whole_to := PySem.W.mg_of X G a_is_whole_to,
    fn_is_whole_to := fun_mk (st := s_is_whole_to) l_is_whole_to co_is_whole_to kp_is_whole_to,
    mg_is_choice := PySem.W.mg_of X G a_is_choice,
    fn_is_choice := fun_mk (st := s_is_choice) l_is_choice co_is_choice kp_is_choice,
    mg_pattern_in := PySem.W.mg_of X G a_pattern_in,
    fn_pattern_in := fun_mk (st := s_pattern_in) l_pattern_in co_pattern_in kp_pattern_in,
    mg_bits_of := PySem.W.mg_of X G a_bits_of,
    fn_bits_of := fun_mk (st := s_bits_of) l_bits_of co_bits_of kp_bits_of,
    mg_number_of := PySem.W.mg_of X G a_number_of,
    fn_number_of := fun_mk (st := s_number_of) l_number_of co_number_of kp_number_of,
    mg_is_meant := PySem.W.mg_of X G a_is_meant,
    fn_is_meant := fun_mk (st := s_is_meant) l_is_meant co_is_meant kp_is_meant,
    mg_pattern_behind := PySem.W.mg_of X G a_pattern_behind,
    fn_pattern_behind := fun_mk (st := s_pattern_behind) l_pattern_behind co_pattern_behind kp_pattern_behind,
    mg_part_of := PySem.W.mg_of X G a_part_of,
    fn_part_of := fun_mk (st := s_part_of) l_part_of co_part_of kp_part_of,
    mg_parts_for := PySem.W.mg_of X G a_parts_for,
    fn_parts_for := fun_mk (st := s_parts_for) l_parts_for co_parts_for kp_parts_for,
    mg_number_behind := PySem.W.mg_of X G a_number_behind,
    fn_number_behind := fun_mk (st := s_number_behind) l_number_behind co_number_behind kp_number_behind,
    mg__law_pen := PySem.W.mg_of X G a__law_pen,
    fn__law_pen := fun_mk (st := s__law_pen) l__law_pen co__law_pen kp__law_pen,
    mg__law_draw := PySem.W.mg_of X G a__law_draw,
    fn__law_draw := fun_mk (st := s__law_draw) l__law_draw co__law_draw kp__law_draw,
    mg__law_pick := PySem.W.mg_of X G a__law_pick,
    fn__law_pick := fun_mk (st := s__law_pick) l__law_pick co__law_pick kp__law_pick,
    mg__law_clause := PySem.W.mg_of X G a__law_clause,
    fn__law_clause := fun_mk (st := s__law_clause) l__law_clause co__law_clause kp__law_clause,
    mg__law_clause_done := PySem.W.mg_of X G a__law_clause_done,
    fn__law_clause_done := fun_mk (st := s__law_clause_done) l__law_clause_done co__law_clause_done kp__law_clause_done,
    mg_law := PySem.W.mg_of X G a_law,
    fn_law := fun_mk (st := s_law) l_law co_law kp_law,
    mg_in_turn := PySem.W.mg_of X G a_in_turn,
    fn_in_turn := fun_mk (st := s_in_turn) l_in_turn co_in_turn kp_in_turn,
    mg_tables_of := PySem.W.mg_of X G a_tables_of,
    fn_tables_of := fun_mk (st := s_tables_of) l_tables_of co_tables_of kp_tables_of,
    mg_parting := PySem.W.mg_of X G a_parting,
    fn_parting := fun_mk (st := s_parting) l_parting co_parting kp_parting,
    mg__law_text := PySem.W.mg_of X G a__law_text,
    fn__law_text := fun_mk (st := s__law_text) l__law_text co__law_text kp__law_text,
    mg__law_change := PySem.W.mg_of X G a__law_change,
    fn__law_change := fun_mk (st := s__law_change) l__law_change co__law_change kp__law_change,
    mg__law_change_text := PySem.W.mg_of X G a__law_change_text,
    fn__law_change_text := fun_mk (st := s__law_change_text) l__law_change_text co__law_change_text kp__law_change_text,
    mg__law_change_done := PySem.W.mg_of X G a__law_change_done,
    fn__law_change_done := fun_mk (st := s__law_change_done) l__law_change_done co__law_change_done kp__law_change_done,
    mg__law_again := PySem.W.mg_of X G a__law_again,
    fn__law_again := fun_mk (st := s__law_again) l__law_again co__law_again kp__law_again,
    mg__law_parting := PySem.W.mg_of X G a__law_parting,
    fn__law_parting := fun_mk (st := s__law_parting) l__law_parting co__law_parting kp__law_parting,
    mg__law_joined_right := PySem.W.mg_of X G a__law_joined_right,
    fn__law_joined_right := fun_mk (st := s__law_joined_right) l__law_joined_right co__law_joined_right kp__law_joined_right,
    mg_Mode := PySem.W.mg_of X G a_Mode,
    c_Mode := ⟨pg_Mode, hd_Mode, po_Mode, sa_Mode⟩,
    n_number_Mode := n_number_Mode,
    mk_Mode := ⟨mk_Mode, at_ModeD_initD, fi_ModeD_initD, kc_Mode⟩,
    fn_ModeD_initD := fun_mk (st := s_ModeD_initD) l_ModeD_initD co_ModeD_initD kp_ModeD_initD,
    p_Mode_number := ⟨at_Mode_number, ge_Mode_number, ta_Mode_number, ⟨_, rc_Mode_number⟩⟩,
    fn_Mode_number := fun_mk (st := s_Mode_number) l_Mode_number co_Mode_number kp_Mode_number,
    m_ModeD_strD := ⟨at_ModeD_strD, fi_ModeD_strD, kp_ModeD_strD⟩,
    fn_ModeD_strD := fun_mk (st := s_ModeD_strD) l_ModeD_strD co_ModeD_strD kp_ModeD_strD,
    m_ModeD_eqD := ⟨at_ModeD_eqD, fi_ModeD_eqD, kp_ModeD_eqD⟩,
    fn_ModeD_eqD := fun_mk (st := s_ModeD_eqD) l_ModeD_eqD co_ModeD_eqD kp_ModeD_eqD,
    r_Mode := ⟨rd_Mode, ga_Mode⟩,
    k_Mode_MOST := ⟨_, ⟨cv_Mode_MOST, ⟨_, rfl⟩⟩⟩,
    m_Mode_uniform := ⟨at_Mode_uniform, ⟨_, rc_Mode_uniform⟩, kp_Mode_uniform⟩,
    fn_Mode_uniform := fun_mk (st := s_Mode_uniform) l_Mode_uniform co_Mode_uniform kp_Mode_uniform,
    ia_Mode := ia_Mode,
    im_Mode := im_Mode,
    is_Mode := kit_self,
    ii_Mode := kit_no ci_Mode ti_Mode su_Mode,
    mg_Clause := PySem.W.mg_of X G a_Clause,
    c_Clause := ⟨pg_Clause, hd_Clause, po_Clause, sa_Clause⟩,
    n_who_Clause := n_who_Clause,
    n_sign_Clause := n_sign_Clause,
    n_what_Clause := n_what_Clause,
    n_tables_Clause := n_tables_Clause,
    mk_Clause := ⟨mk_Clause, at_ClauseD_initD, fi_ClauseD_initD, kc_Clause⟩,
    fn_ClauseD_initD := fun_mk (st := s_ClauseD_initD) l_ClauseD_initD co_ClauseD_initD kp_ClauseD_initD,
    p_Clause_who := ⟨at_Clause_who, ge_Clause_who, ta_Clause_who, ⟨_, rc_Clause_who⟩⟩,
    fn_Clause_who := fun_mk (st := s_Clause_who) l_Clause_who co_Clause_who kp_Clause_who,
    p_Clause_sign := ⟨at_Clause_sign, ge_Clause_sign, ta_Clause_sign, ⟨_, rc_Clause_sign⟩⟩,
    fn_Clause_sign := fun_mk (st := s_Clause_sign) l_Clause_sign co_Clause_sign kp_Clause_sign,
    p_Clause_what := ⟨at_Clause_what, ge_Clause_what, ta_Clause_what, ⟨_, rc_Clause_what⟩⟩,
    fn_Clause_what := fun_mk (st := s_Clause_what) l_Clause_what co_Clause_what kp_Clause_what,
    m_ClauseD_eqD := ⟨at_ClauseD_eqD, fi_ClauseD_eqD, kp_ClauseD_eqD⟩,
    fn_ClauseD_eqD := fun_mk (st := s_ClauseD_eqD) l_ClauseD_eqD co_ClauseD_eqD kp_ClauseD_eqD,
    o_Clause := ⟨at_ClauseD_callD, fi_ClauseD_callD, fm_ClauseD_callD⟩,
    fn_ClauseD_callD := fun_mk (st := s_ClauseD_callD) l_ClauseD_callD co_ClauseD_callD kp_ClauseD_callD,
    m_Clause_read := ⟨at_Clause_read, ⟨_, rc_Clause_read⟩, fm_Clause_read⟩,
    fn_Clause_read := fun_mk (st := s_Clause_read) l_Clause_read co_Clause_read kp_Clause_read,
    r_Clause := ⟨rd_Clause, ga_Clause⟩,
    ia_Clause := ia_Clause,
    im_Clause := im_Clause,
    is_Clause := kit_self,
    ii_Clause := kit_no ci_Clause ti_Clause su_Clause,
    mg_Change := PySem.W.mg_of X G a_Change,
    c_Change := ⟨pg_Change, hd_Change, po_Change, sa_Change⟩,
    n_clauses_Change := n_clauses_Change,
    n_tables_Change := n_tables_Change,
    mk_Change := ⟨mk_Change, at_ChangeD_initD, fi_ChangeD_initD, kc_Change⟩,
    fn_ChangeD_initD := fun_mk (st := s_ChangeD_initD) l_ChangeD_initD co_ChangeD_initD kp_ChangeD_initD,
    p_Change_clauses := ⟨at_Change_clauses, ge_Change_clauses, ta_Change_clauses, ⟨_, rc_Change_clauses⟩⟩,
    fn_Change_clauses := fun_mk (st := s_Change_clauses) l_Change_clauses co_Change_clauses kp_Change_clauses,
    p_Change_tables := ⟨at_Change_tables, ge_Change_tables, ta_Change_tables, ⟨_, rc_Change_tables⟩⟩,
    fn_Change_tables := fun_mk (st := s_Change_tables) l_Change_tables co_Change_tables kp_Change_tables,
    m_Change_like := ⟨at_Change_like, fi_Change_like, kp_Change_like⟩,
    fn_Change_like := fun_mk (st := s_Change_like) l_Change_like co_Change_like kp_Change_like,
    m_ChangeD_mulD := ⟨at_ChangeD_mulD, fi_ChangeD_mulD, kp_ChangeD_mulD⟩,
    fn_ChangeD_mulD := fun_mk (st := s_ChangeD_mulD) l_ChangeD_mulD co_ChangeD_mulD kp_ChangeD_mulD,
    m_ChangeD_eqD := ⟨at_ChangeD_eqD, fi_ChangeD_eqD, kp_ChangeD_eqD⟩,
    fn_ChangeD_eqD := fun_mk (st := s_ChangeD_eqD) l_ChangeD_eqD co_ChangeD_eqD kp_ChangeD_eqD,
    r_Change := ⟨rd_Change, ga_Change⟩,
    k_Change_MOST := ⟨_, ⟨cv_Change_MOST, ⟨_, rfl⟩⟩⟩,
    o_Change := ⟨at_ChangeD_callD, fi_ChangeD_callD, fm_ChangeD_callD⟩,
    fn_ChangeD_callD := fun_mk (st := s_ChangeD_callD) l_ChangeD_callD co_ChangeD_callD kp_ChangeD_callD,
    m_Change_read := ⟨at_Change_read, ⟨_, rc_Change_read⟩, fm_Change_read⟩,
    fn_Change_read := fun_mk (st := s_Change_read) l_Change_read co_Change_read kp_Change_read,
    ia_Change := ia_Change,
    im_Change := im_Change,
    is_Change := kit_self,
    ii_Change := kit_no ci_Change ti_Change su_Change,
    in_ := in0,
    it_ := it0,
    mg_SIGNS := PySem.W.mg_of X G a_SIGNS,
    t_SIGNS := fun H => tup_at lt_SIGNS sz_SIGNS vl_SIGNS,
    mg_PATTERNS := PySem.W.mg_of X G a_PATTERNS,
    t_PATTERNS := fun H => tup_at lt_PATTERNS sz_PATTERNS vl_PATTERNS,
    mg_NINE_BITS := PySem.W.mg_of X G a_NINE_BITS,
    t_NINE_BITS := fun H => tup_at lt_NINE_BITS sz_NINE_BITS vl_NINE_BITS,
    mg_NINE_SIGNS := ⟨_, PySem.W.mg_of X G a_NINE_SIGNS⟩,
    mg_PARTS := PySem.W.mg_of X G a_PARTS,
    t_PARTS := fun H => ⟨k_P1, k_P2, k_P3, k_P4, tup_at lt_PARTS sz_PARTS vl_PARTS, tup_at lt_P1 sz_P1 vl_P1, tup_at lt_P2 sz_P2 vl_P2, tup_at lt_P3 sz_P3 vl_P3, tup_at lt_P4 sz_P4 vl_P4⟩,
    mg_BadClause := PySem.W.mg_of X G a_BadClause,
    nf_Mode := nf_Mode,
    sf_Change := sf_Change,
    ne_Mode := ne_Mode,
    mg_CLASSES := PySem.W.mg_of X G a_CLASSES,
    d_CLASSES := ⟨_, _, ⟨ld_CL, kl_CL, lw_CL⟩, ⟨_, eu_CL⟩, ⟨_, eg_CL⟩, ⟨_, eo_CL⟩, (List.forall_mem_cons.mpr ⟨w0_CL, (List.forall_mem_cons.mpr ⟨w1_CL, (List.forall_mem_cons.mpr ⟨w2_CL, (List.forall_mem_cons.mpr ⟨w3_CL, (List.forall_mem_cons.mpr ⟨w4_CL, (List.forall_mem_cons.mpr ⟨w5_CL, (List.forall_mem_cons.mpr ⟨w6_CL, (List.forall_mem_cons.mpr ⟨w7_CL, (List.forall_mem_cons.mpr ⟨w8_CL, (List.forall_mem_cons.mpr ⟨w9_CL, (List.forall_mem_cons.mpr ⟨w10_CL, (List.forall_mem_cons.mpr ⟨w11_CL, (List.forall_mem_nil _)⟩)⟩)⟩)⟩)⟩)⟩)⟩)⟩)⟩)⟩)⟩)⟩)⟩,
    mg_FORMS := PySem.W.mg_of X G a_FORMS,
    t_FORMS := fun H => tup_at lt_FORMS sz_FORMS vl_FORMS
  }
  exact ⟨PySem.W.fnOf "law" "law" (defArgs s_law) (defBody s_law) (defScope s_law) .none kV_law dc_law pm_law an_law cd_law ct_law, fun s v => .of_eq rfl, fun base _ _ => ok_law T⟩
theorem walk {l : PySem.W.OpenLaw} {q : Program} {loose : List Str} {XP : (Str → Option Value) → Heap → Prop} {YP : World → Heap → Prop} {d : DefRec} {K : Params → PySem.W.Frag} (many : l.most = some 63) (plain : d.params.defaults = []) (inK : ∀ (w : World) (h : Heap), YP w h → (K w.params).In h)
    (F : ∀ (w : World) (mg : Str → Option Value) (fa : Addr) (h : Heap), (K w.params).In h → h.Ns mainGlobals mg → mg d.name = some (.ref fa) →
      ∃ fd : FuncData, (∀ (s : Shared) (u : Value), BindsTo s fd ⟨[u], []⟩ [("_law_script", u)]) ∧ ∀ base : Heap, (K w.params).In base → base.Ns mainGlobals mg → RunAt l.prog w (K w.params) mg base callerA fa fd ["_law_script"] (spLaw (K w.params))) :
    PySem.W.WalkO q loose XP YP l.row.toRowW d [] (fun f vs => PySem.call f vs) :=
  walk_top (n := 63) (x := "_law_script") (sp := fun w => spLaw (K w.params)) many (by decide) plain inK F (fun _ _ b ns hl _ hS => ⟨b, ns, rfl, hS, hl, fun _ => rfl⟩)
end KY
open PySem PySem.W PyProof.Rows
set_option maxRecDepth 100000 in
set_option maxHeartbeats 0 in
theorem PySem.Challenge.cw_modesdown_k11_whole_changes_joined_and_c_holds : PySem.Challenge.rw_modesdown_k11_whole_changes_joined_and_c.Holds := by
  w_on; o_law; k_head; (case hw => w_witness2)
  k_fill
  refine KY.walk (l := PySem.Challenge.rw_modesdown_k11_whole_changes_joined_and_c) rfl rfl (fun w h Y => PySem.W.kIn_of Y) ?F
  case F =>
    intro w mg fa h kIn G hmg
    refine' KY.all_mk kIn G hmg ?z_isinstance ?z_int ?z_bool ?z_str ?z_sum ?z_tuple ?z_zip ?z_list ?z_len ?z_abs ?z_range ?z_dict ?z_enumerate ?z_repr ?a_is_whole ?l_is_whole ?co_is_whole ?kp_is_whole ?a_is_whole_to ?l_is_whole_to ?co_is_whole_to ?kp_is_whole_to ?a_is_choice ?l_is_choice ?co_is_choice ?kp_is_choice ?a_pattern_in ?l_pattern_in ?co_pattern_in ?kp_pattern_in ?a_bits_of ?l_bits_of ?co_bits_of ?kp_bits_of ?a_number_of ?l_number_of ?co_number_of ?kp_number_of ?a_is_meant ?l_is_meant ?co_is_meant ?kp_is_meant ?a_pattern_behind ?l_pattern_behind ?co_pattern_behind ?kp_pattern_behind ?a_part_of ?l_part_of ?co_part_of ?kp_part_of ?a_parts_for ?l_parts_for ?co_parts_for ?kp_parts_for ?a_number_behind ?l_number_behind ?co_number_behind ?kp_number_behind ?a__law_pen ?l__law_pen ?co__law_pen ?kp__law_pen ?a__law_draw ?l__law_draw ?co__law_draw ?kp__law_draw ?a__law_pick ?l__law_pick ?co__law_pick ?kp__law_pick ?a__law_clause ?l__law_clause ?co__law_clause ?kp__law_clause ?a__law_clause_done ?l__law_clause_done ?co__law_clause_done ?kp__law_clause_done ?a_law ?l_law ?co_law ?kp_law ?a_in_turn ?l_in_turn ?co_in_turn ?kp_in_turn ?a_tables_of ?l_tables_of ?co_tables_of ?kp_tables_of ?a_parting ?l_parting ?co_parting ?kp_parting ?a__law_text ?l__law_text ?co__law_text ?kp__law_text ?a__law_change ?l__law_change ?co__law_change ?kp__law_change ?a__law_change_text ?l__law_change_text ?co__law_change_text ?kp__law_change_text ?a__law_change_done ?l__law_change_done ?co__law_change_done ?kp__law_change_done ?a__law_again ?l__law_again ?co__law_again ?kp__law_again ?a__law_parting ?l__law_parting ?co__law_parting ?kp__law_parting ?a__law_joined_right ?l__law_joined_right ?co__law_joined_right ?kp__law_joined_right ?a_Mode ?pg_Mode ?hd_Mode ?po_Mode ?sa_Mode ?n_number_Mode ?at_ModeD_initD ?fi_ModeD_initD ?l_ModeD_initD ?co_ModeD_initD ?kp_ModeD_initD ?mk_Mode ?kc_Mode ?at_Mode_number ?ge_Mode_number ?ta_Mode_number ?rc_Mode_number ?l_Mode_number ?co_Mode_number ?kp_Mode_number ?at_ModeD_strD ?fi_ModeD_strD ?l_ModeD_strD ?co_ModeD_strD ?kp_ModeD_strD ?at_ModeD_eqD ?fi_ModeD_eqD ?l_ModeD_eqD ?co_ModeD_eqD ?kp_ModeD_eqD ?rd_Mode ?ga_Mode ?cv_Mode_MOST ?at_Mode_uniform ?rc_Mode_uniform ?l_Mode_uniform ?co_Mode_uniform ?kp_Mode_uniform ?ia_Mode ?im_Mode ?ci_Mode ?ti_Mode ?su_Mode ?a_Clause ?pg_Clause ?hd_Clause ?po_Clause ?sa_Clause ?n_who_Clause ?n_sign_Clause ?n_what_Clause ?n_tables_Clause ?at_ClauseD_initD ?fi_ClauseD_initD ?l_ClauseD_initD ?co_ClauseD_initD ?kp_ClauseD_initD ?mk_Clause ?kc_Clause ?at_Clause_who ?ge_Clause_who ?ta_Clause_who ?rc_Clause_who ?l_Clause_who ?co_Clause_who ?kp_Clause_who ?at_Clause_sign ?ge_Clause_sign ?ta_Clause_sign ?rc_Clause_sign ?l_Clause_sign ?co_Clause_sign ?kp_Clause_sign ?at_Clause_what ?ge_Clause_what ?ta_Clause_what ?rc_Clause_what ?l_Clause_what ?co_Clause_what ?kp_Clause_what ?at_ClauseD_eqD ?fi_ClauseD_eqD ?l_ClauseD_eqD ?co_ClauseD_eqD ?kp_ClauseD_eqD ?at_ClauseD_callD ?fi_ClauseD_callD ?fm_ClauseD_callD ?l_ClauseD_callD ?co_ClauseD_callD ?kp_ClauseD_callD ?at_Clause_read ?rc_Clause_read ?fm_Clause_read ?l_Clause_read ?co_Clause_read ?kp_Clause_read ?rd_Clause ?ga_Clause ?ia_Clause ?im_Clause ?ci_Clause ?ti_Clause ?su_Clause ?a_Change ?pg_Change ?hd_Change ?po_Change ?sa_Change ?n_clauses_Change ?n_tables_Change ?at_ChangeD_initD ?fi_ChangeD_initD ?l_ChangeD_initD ?co_ChangeD_initD ?kp_ChangeD_initD ?mk_Change ?kc_Change ?at_Change_clauses ?ge_Change_clauses ?ta_Change_clauses ?rc_Change_clauses ?l_Change_clauses ?co_Change_clauses ?kp_Change_clauses ?at_Change_tables ?ge_Change_tables ?ta_Change_tables ?rc_Change_tables ?l_Change_tables ?co_Change_tables ?kp_Change_tables ?at_Change_like ?fi_Change_like ?l_Change_like ?co_Change_like ?kp_Change_like ?at_ChangeD_mulD ?fi_ChangeD_mulD ?l_ChangeD_mulD ?co_ChangeD_mulD ?kp_ChangeD_mulD ?at_ChangeD_eqD ?fi_ChangeD_eqD ?l_ChangeD_eqD ?co_ChangeD_eqD ?kp_ChangeD_eqD ?rd_Change ?ga_Change ?cv_Change_MOST ?at_ChangeD_callD ?fi_ChangeD_callD ?fm_ChangeD_callD ?l_ChangeD_callD ?co_ChangeD_callD ?kp_ChangeD_callD ?at_Change_read ?rc_Change_read ?fm_Change_read ?l_Change_read ?co_Change_read ?kp_Change_read ?ia_Change ?im_Change ?ci_Change ?ti_Change ?su_Change ?in0 ?it0 ?a_SIGNS ?lt_SIGNS ?sz_SIGNS ?vl_SIGNS ?a_PATTERNS ?lt_PATTERNS ?sz_PATTERNS ?vl_PATTERNS ?a_NINE_BITS ?lt_NINE_BITS ?sz_NINE_BITS ?vl_NINE_BITS ?a_NINE_SIGNS ?a_PARTS ?lt_PARTS ?sz_PARTS ?vl_PARTS ?lt_P1 ?sz_P1 ?vl_P1 ?lt_P2 ?sz_P2 ?vl_P2 ?lt_P3 ?sz_P3 ?vl_P3 ?lt_P4 ?sz_P4 ?vl_P4 ?a_BadClause ?nf_Mode ?sf_Change ?ne_Mode ?a_CLASSES ?ld_CL ?kl_CL ?lw_CL ?eu_CL ?eg_CL ?eo_CL ?w0_CL ?w1_CL ?w2_CL ?w3_CL ?w4_CL ?w5_CL ?w6_CL ?w7_CL ?w8_CL ?w9_CL ?w10_CL ?w11_CL ?a_FORMS ?lt_FORMS ?sz_FORMS ?vl_FORMS
    (case z_isinstance => k_is)
    (case z_int => k_is)
    (case z_bool => k_is)
    (case z_str => k_is)
    (case z_sum => k_is)
    (case z_tuple => k_is)
    (case z_zip => k_is)
    (case z_list => k_is)
    (case z_len => k_is)
    (case z_abs => k_is)
    (case z_range => k_is)
    (case z_dict => k_is)
    (case z_enumerate => k_is)
    (case z_repr => k_is)
    (case a_is_whole => k_is)
    (case l_is_whole => k_is)
    (case co_is_whole => k_is)
    (case kp_is_whole => k_is)
    (case a_is_whole_to => k_is)
    (case l_is_whole_to => k_is)
    (case co_is_whole_to => k_is)
    (case kp_is_whole_to => k_is)
    (case a_is_choice => k_is)
    (case l_is_choice => k_is)
    (case co_is_choice => k_is)
    (case kp_is_choice => k_is)
    (case a_pattern_in => k_is)
    (case l_pattern_in => k_is)
    (case co_pattern_in => k_is)
    (case kp_pattern_in => k_is)
    (case a_bits_of => k_is)
    (case l_bits_of => k_is)
    (case co_bits_of => k_is)
    (case kp_bits_of => k_is)
    (case a_number_of => k_is)
    (case l_number_of => k_is)
    (case co_number_of => k_is)
    (case kp_number_of => k_is)
    (case a_is_meant => k_is)
    (case l_is_meant => k_is)
    (case co_is_meant => k_is)
    (case kp_is_meant => k_is)
    (case a_pattern_behind => k_is)
    (case l_pattern_behind => k_is)
    (case co_pattern_behind => k_is)
    (case kp_pattern_behind => k_is)
    (case a_part_of => k_is)
    (case l_part_of => k_is)
    (case co_part_of => k_is)
    (case kp_part_of => k_is)
    (case a_parts_for => k_is)
    (case l_parts_for => k_is)
    (case co_parts_for => k_is)
    (case kp_parts_for => k_is)
    (case a_number_behind => k_is)
    (case l_number_behind => k_is)
    (case co_number_behind => k_is)
    (case kp_number_behind => k_is)
    (case a__law_pen => k_is)
    (case l__law_pen => k_is)
    (case co__law_pen => k_is)
    (case kp__law_pen => k_is)
    (case a__law_draw => k_is)
    (case l__law_draw => k_is)
    (case co__law_draw => k_is)
    (case kp__law_draw => k_is)
    (case a__law_pick => k_is)
    (case l__law_pick => k_is)
    (case co__law_pick => k_is)
    (case kp__law_pick => k_is)
    (case a__law_clause => k_is)
    (case l__law_clause => k_is)
    (case co__law_clause => k_is)
    (case kp__law_clause => k_is)
    (case a__law_clause_done => k_is)
    (case l__law_clause_done => k_is)
    (case co__law_clause_done => k_is)
    (case kp__law_clause_done => k_is)
    (case a_law => k_is)
    (case l_law => k_is)
    (case co_law => k_is)
    (case kp_law => k_is)
    (case a_in_turn => k_is)
    (case l_in_turn => k_is)
    (case co_in_turn => k_is)
    (case kp_in_turn => k_is)
    (case a_tables_of => k_is)
    (case l_tables_of => k_is)
    (case co_tables_of => k_is)
    (case kp_tables_of => k_is)
    (case a_parting => k_is)
    (case l_parting => k_is)
    (case co_parting => k_is)
    (case kp_parting => k_is)
    (case a__law_text => k_is)
    (case l__law_text => k_is)
    (case co__law_text => k_is)
    (case kp__law_text => k_is)
    (case a__law_change => k_is)
    (case l__law_change => k_is)
    (case co__law_change => k_is)
    (case kp__law_change => k_is)
    (case a__law_change_text => k_is)
    (case l__law_change_text => k_is)
    (case co__law_change_text => k_is)
    (case kp__law_change_text => k_is)
    (case a__law_change_done => k_is)
    (case l__law_change_done => k_is)
    (case co__law_change_done => k_is)
    (case kp__law_change_done => k_is)
    (case a__law_again => k_is)
    (case l__law_again => k_is)
    (case co__law_again => k_is)
    (case kp__law_again => k_is)
    (case a__law_parting => k_is)
    (case l__law_parting => k_is)
    (case co__law_parting => k_is)
    (case kp__law_parting => k_is)
    (case a__law_joined_right => k_is)
    (case l__law_joined_right => k_is)
    (case co__law_joined_right => k_is)
    (case kp__law_joined_right => k_is)
    (case a_Mode => k_is)
    (case pg_Mode => k_is)
    (case hd_Mode => k_is)
    (case po_Mode => k_is)
    (case sa_Mode => k_is)
    (case n_number_Mode => k_is)
    (case at_ModeD_initD => k_is)
    (case fi_ModeD_initD => k_is)
    (case l_ModeD_initD => k_is)
    (case co_ModeD_initD => k_is)
    (case kp_ModeD_initD => k_is)
    (case mk_Mode => k_is)
    (case kc_Mode => k_is)
    (case at_Mode_number => k_is)
    (case ge_Mode_number => k_is)
    (case ta_Mode_number => k_is)
    (case rc_Mode_number => k_is)
    (case l_Mode_number => k_is)
    (case co_Mode_number => k_is)
    (case kp_Mode_number => k_is)
    (case at_ModeD_strD => k_is)
    (case fi_ModeD_strD => k_is)
    (case l_ModeD_strD => k_is)
    (case co_ModeD_strD => k_is)
    (case kp_ModeD_strD => k_is)
    (case at_ModeD_eqD => k_is)
    (case fi_ModeD_eqD => k_is)
    (case l_ModeD_eqD => k_is)
    (case co_ModeD_eqD => k_is)
    (case kp_ModeD_eqD => k_is)
    (case rd_Mode => k_is)
    (case ga_Mode => k_is)
    (case cv_Mode_MOST => k_is)
    (case at_Mode_uniform => k_is)
    (case rc_Mode_uniform => k_is)
    (case l_Mode_uniform => k_is)
    (case co_Mode_uniform => k_is)
    (case kp_Mode_uniform => k_is)
    (case ia_Mode => k_is)
    (case im_Mode => k_is)
    (case ci_Mode => k_is)
    (case ti_Mode => k_is)
    (case su_Mode => k_is)
    (case a_Clause => k_is)
    (case pg_Clause => k_is)
    (case hd_Clause => k_is)
    (case po_Clause => k_is)
    (case sa_Clause => k_is)
    (case n_who_Clause => k_is)
    (case n_sign_Clause => k_is)
    (case n_what_Clause => k_is)
    (case n_tables_Clause => k_is)
    (case at_ClauseD_initD => k_is)
    (case fi_ClauseD_initD => k_is)
    (case l_ClauseD_initD => k_is)
    (case co_ClauseD_initD => k_is)
    (case kp_ClauseD_initD => k_is)
    (case mk_Clause => k_is)
    (case kc_Clause => k_is)
    (case at_Clause_who => k_is)
    (case ge_Clause_who => k_is)
    (case ta_Clause_who => k_is)
    (case rc_Clause_who => k_is)
    (case l_Clause_who => k_is)
    (case co_Clause_who => k_is)
    (case kp_Clause_who => k_is)
    (case at_Clause_sign => k_is)
    (case ge_Clause_sign => k_is)
    (case ta_Clause_sign => k_is)
    (case rc_Clause_sign => k_is)
    (case l_Clause_sign => k_is)
    (case co_Clause_sign => k_is)
    (case kp_Clause_sign => k_is)
    (case at_Clause_what => k_is)
    (case ge_Clause_what => k_is)
    (case ta_Clause_what => k_is)
    (case rc_Clause_what => k_is)
    (case l_Clause_what => k_is)
    (case co_Clause_what => k_is)
    (case kp_Clause_what => k_is)
    (case at_ClauseD_eqD => k_is)
    (case fi_ClauseD_eqD => k_is)
    (case l_ClauseD_eqD => k_is)
    (case co_ClauseD_eqD => k_is)
    (case kp_ClauseD_eqD => k_is)
    (case at_ClauseD_callD => k_is)
    (case fi_ClauseD_callD => k_is)
    (case fm_ClauseD_callD => k_is)
    (case l_ClauseD_callD => k_is)
    (case co_ClauseD_callD => k_is)
    (case kp_ClauseD_callD => k_is)
    (case at_Clause_read => k_is)
    (case rc_Clause_read => k_is)
    (case fm_Clause_read => k_is)
    (case l_Clause_read => k_is)
    (case co_Clause_read => k_is)
    (case kp_Clause_read => k_is)
    (case rd_Clause => k_is)
    (case ga_Clause => k_is)
    (case ia_Clause => k_is)
    (case im_Clause => k_is)
    (case ci_Clause => k_is)
    (case ti_Clause => k_is)
    (case su_Clause => k_is)
    (case a_Change => k_is)
    (case pg_Change => k_is)
    (case hd_Change => k_is)
    (case po_Change => k_is)
    (case sa_Change => k_is)
    (case n_clauses_Change => k_is)
    (case n_tables_Change => k_is)
    (case at_ChangeD_initD => k_is)
    (case fi_ChangeD_initD => k_is)
    (case l_ChangeD_initD => k_is)
    (case co_ChangeD_initD => k_is)
    (case kp_ChangeD_initD => k_is)
    (case mk_Change => k_is)
    (case kc_Change => k_is)
    (case at_Change_clauses => k_is)
    (case ge_Change_clauses => k_is)
    (case ta_Change_clauses => k_is)
    (case rc_Change_clauses => k_is)
    (case l_Change_clauses => k_is)
    (case co_Change_clauses => k_is)
    (case kp_Change_clauses => k_is)
    (case at_Change_tables => k_is)
    (case ge_Change_tables => k_is)
    (case ta_Change_tables => k_is)
    (case rc_Change_tables => k_is)
    (case l_Change_tables => k_is)
    (case co_Change_tables => k_is)
    (case kp_Change_tables => k_is)
    (case at_Change_like => k_is)
    (case fi_Change_like => k_is)
    (case l_Change_like => k_is)
    (case co_Change_like => k_is)
    (case kp_Change_like => k_is)
    (case at_ChangeD_mulD => k_is)
    (case fi_ChangeD_mulD => k_is)
    (case l_ChangeD_mulD => k_is)
    (case co_ChangeD_mulD => k_is)
    (case kp_ChangeD_mulD => k_is)
    (case at_ChangeD_eqD => k_is)
    (case fi_ChangeD_eqD => k_is)
    (case l_ChangeD_eqD => k_is)
    (case co_ChangeD_eqD => k_is)
    (case kp_ChangeD_eqD => k_is)
    (case rd_Change => k_is)
    (case ga_Change => k_is)
    (case cv_Change_MOST => k_is)
    (case at_ChangeD_callD => k_is)
    (case fi_ChangeD_callD => k_is)
    (case fm_ChangeD_callD => k_is)
    (case l_ChangeD_callD => k_is)
    (case co_ChangeD_callD => k_is)
    (case kp_ChangeD_callD => k_is)
    (case at_Change_read => k_is)
    (case rc_Change_read => k_is)
    (case fm_Change_read => k_is)
    (case l_Change_read => k_is)
    (case co_Change_read => k_is)
    (case kp_Change_read => k_is)
    (case ia_Change => k_is)
    (case im_Change => k_is)
    (case ci_Change => k_is)
    (case ti_Change => k_is)
    (case su_Change => k_is)
    (case in0 => k_is)
    (case it0 => k_is)
    (case a_SIGNS => k_is)
    (case lt_SIGNS => k_is)
    (case sz_SIGNS => (exact Nat.le_of_lt (L2.small1000 (by decide))))
    (case vl_SIGNS => exact (.cons ⟨_, rfl⟩ (.cons ⟨_, rfl⟩ (.cons ⟨_, rfl⟩ .nil))))
    (case a_PATTERNS => k_is)
    (case lt_PATTERNS => k_is)
    (case sz_PATTERNS => (exact Nat.le_of_lt (L2.small1000 (by decide))))
    (case vl_PATTERNS => exact (.cons ⟨_, rfl⟩ (.cons ⟨_, rfl⟩ (.cons ⟨_, rfl⟩ (.cons ⟨_, rfl⟩ (.cons ⟨_, rfl⟩ (.cons ⟨_, rfl⟩ (.cons ⟨_, rfl⟩ (.cons ⟨_, rfl⟩ .nil)))))))))
    (case a_NINE_BITS => k_is)
    (case lt_NINE_BITS => k_is)
    (case sz_NINE_BITS => (exact Nat.le_of_lt (L2.small1000 (by decide))))
    (case vl_NINE_BITS => exact (.cons ⟨_, rfl⟩ (.cons ⟨_, rfl⟩ (.cons ⟨_, rfl⟩ (.cons ⟨_, rfl⟩ (.cons ⟨_, rfl⟩ (.cons ⟨_, rfl⟩ (.cons ⟨_, rfl⟩ (.cons ⟨_, rfl⟩ (.cons ⟨_, rfl⟩ .nil))))))))))
    (case a_NINE_SIGNS => k_is)
    (case a_PARTS => k_is)
    (case lt_PARTS => k_is)
    (case sz_PARTS => (exact Nat.le_of_lt (L2.small1000 (by decide))))
    (case vl_PARTS => exact (.cons rfl (.cons rfl (.cons rfl (.cons rfl .nil)))))
    (case lt_P1 => k_is)
    (case sz_P1 => (exact Nat.le_of_lt (L2.small1000 (by decide))))
    (case vl_P1 => exact (.cons ⟨_, rfl⟩ (.cons ⟨_, rfl⟩ .nil)))
    (case lt_P2 => k_is)
    (case sz_P2 => (exact Nat.le_of_lt (L2.small1000 (by decide))))
    (case vl_P2 => exact (.cons ⟨_, rfl⟩ (.cons ⟨_, rfl⟩ .nil)))
    (case lt_P3 => k_is)
    (case sz_P3 => (exact Nat.le_of_lt (L2.small1000 (by decide))))
    (case vl_P3 => exact (.cons ⟨_, rfl⟩ (.cons ⟨_, rfl⟩ .nil)))
    (case lt_P4 => k_is)
    (case sz_P4 => (exact Nat.le_of_lt (L2.small1000 (by decide))))
    (case vl_P4 => exact (.cons ⟨_, rfl⟩ (.cons ⟨_, rfl⟩ .nil)))
    (case a_BadClause => k_is)
    (case nf_Mode => k_is)
    (case sf_Change => k_is)
    (case ne_Mode => k_is)
    (case a_CLASSES => k_is)
    (case ld_CL => k_is)
    (case kl_CL => k_keys)
    (case lw_CL => decide)
    (case eu_CL => k_is)
    (case eg_CL => k_is)
    (case eo_CL => k_is)
    (case w0_CL => k_is)
    (case w1_CL => k_is)
    (case w2_CL => k_is)
    (case w3_CL => k_is)
    (case w4_CL => k_is)
    (case w5_CL => k_is)
    (case w6_CL => k_is)
    (case w7_CL => k_is)
    (case w8_CL => k_is)
    (case w9_CL => k_is)
    (case w10_CL => k_is)
    (case w11_CL => k_is)
    (case a_FORMS => k_is)
    (case lt_FORMS => k_is)
    (case sz_FORMS => (exact Nat.le_of_lt (L2.small1000 (by decide))))
    (case vl_FORMS => exact (.cons ⟨_, rfl⟩ (.cons ⟨_, rfl⟩ .nil)))
