import PyProof.Rows.All
import Wide.All
import OpenK.AllK
import Wide.FinOn
import HandS.ForMost
import HandS.Property
import HandS.IsInst
import HandS.ClsMeth
import HandS.Conv
import HandS.Wide
import HandS.WideBits
import HandS.Star
import HandS.Flow
import HandS.Evl
import HandS.More
import HandS.Zip
import HandS.MethStar
import HandS.Strs
import KE.GoesEnum
import HandS.SlotsOwn
import PyProof.EnumMake
import HandS.IterVal
import HandS.TryOnly
import HandS.WordsExc
import HandS.TupMul
import KE.KDictKeyed
import HandS.Deep
import HandS.TupLen
import HandS.FStr
import HandS.OwnEq

import PySem.Challenge.RW_modesdown_k10_cycles_and_settings

set_option Elab.async false
set_option linter.all false
set_option maxRecDepth 100000
set_option maxHeartbeats 4000000
namespace KX
open PySem L2
def top (i : Nat) : Stmt := PySem.Challenge.pw_modesdown_k10_cycles_and_settings.main.body.getD i (.Pass ⟨0, 0, 0, 0⟩)
abbrev s__wall : Stmt := top 0
abbrev s_is_whole : Stmt := top 2
abbrev s_is_whole_to : Stmt := top 3
abbrev s_is_choice : Stmt := top 4
abbrev s_BadModeD_initD : Stmt := inClass (top 9) 0
abbrev s_BadClauseD_initD : Stmt := inClass (top 10) 0
abbrev s_BadTextD_initD : Stmt := inClass (top 11) 0
abbrev s_TooManyD_initD : Stmt := inClass (top 12) 0
abbrev s_pattern_in : Stmt := top 17
abbrev s_bits_of : Stmt := top 18
abbrev s_weight_of : Stmt := top 19
abbrev s_ModeD_initD : Stmt := inClass (top 20) 1
abbrev s_Mode_read : Stmt := inClass (top 20) 2
abbrev s_Mode_of : Stmt := inClass (top 20) 3
abbrev s_Mode_uniform : Stmt := inClass (top 20) 4
abbrev s_Mode_number : Stmt := inClass (top 20) 5
abbrev s_Mode_digits : Stmt := inClass (top 20) 6
abbrev s_Mode_pattern : Stmt := inClass (top 20) 7
abbrev s_Mode_with_pattern : Stmt := inClass (top 20) 8
abbrev s_ModeD_orD : Stmt := inClass (top 20) 9
abbrev s_ModeD_rorD : Stmt := inClass (top 20) 10
abbrev s_ModeD_andD : Stmt := inClass (top 20) 11
abbrev s_ModeD_randD : Stmt := inClass (top 20) 12
abbrev s_ModeD_xorD : Stmt := inClass (top 20) 13
abbrev s_ModeD_rxorD : Stmt := inClass (top 20) 14
abbrev s_ModeD_invertD : Stmt := inClass (top 20) 15
abbrev s_ModeD_containsD : Stmt := inClass (top 20) 16
abbrev s_ModeD_lenD : Stmt := inClass (top 20) 17
abbrev s_ModeD_boolD : Stmt := inClass (top 20) 18
abbrev s_ModeD_eqD : Stmt := inClass (top 20) 19
abbrev s_ModeD_strD : Stmt := inClass (top 20) 20
abbrev s_ModeD_reprD : Stmt := inClass (top 20) 21
abbrev s_may_stand : Stmt := top 21
abbrev s_number_of : Stmt := top 22
abbrev s_is_meant : Stmt := top 28
abbrev s_pattern_behind : Stmt := top 29
abbrev s_part_of : Stmt := top 30
abbrev s_in_turn : Stmt := top 31
abbrev s_tables_of : Stmt := top 32
abbrev s_parts_for : Stmt := top 33
abbrev s_number_behind : Stmt := top 34
abbrev s_letters_of : Stmt := top 35
abbrev s_ClauseD_initD : Stmt := inClass (top 36) 0
abbrev s_Clause_read : Stmt := inClass (top 36) 1
abbrev s_Clause_who : Stmt := inClass (top 36) 2
abbrev s_Clause_sign : Stmt := inClass (top 36) 3
abbrev s_Clause_what : Stmt := inClass (top 36) 4
abbrev s_ClauseD_callD : Stmt := inClass (top 36) 5
abbrev s_ClauseD_eqD : Stmt := inClass (top 36) 6
abbrev s_ClauseD_strD : Stmt := inClass (top 36) 7
abbrev s_ChangeD_initD : Stmt := inClass (top 37) 1
abbrev s_Change_read : Stmt := inClass (top 37) 2
abbrev s_Change_setting : Stmt := inClass (top 37) 3
abbrev s_Change_clauses : Stmt := inClass (top 37) 4
abbrev s_Change_tables : Stmt := inClass (top 37) 5
abbrev s_ChangeD_callD : Stmt := inClass (top 37) 6
abbrev s_ChangeD_mulD : Stmt := inClass (top 37) 7
abbrev s_Change_like : Stmt := inClass (top 37) 8
abbrev s_Change_cycle : Stmt := inClass (top 37) 9
abbrev s_ChangeD_eqD : Stmt := inClass (top 37) 10
abbrev s_ChangeD_strD : Stmt := inClass (top 37) 11
abbrev s__law_pen : Stmt := top 39
abbrev s__law_draw : Stmt := top 40
abbrev s__law_pick : Stmt := top 41
abbrev s__law_text : Stmt := top 42
abbrev s__law_clause : Stmt := top 43
abbrev s__law_change : Stmt := top 44
abbrev s__law_change_text : Stmt := top 45
abbrev s__law_clause_done : Stmt := top 46
abbrev s__law_change_done : Stmt := top 47
abbrev s__law_mode : Stmt := top 48
abbrev s__law_cycle : Stmt := top 49
abbrev s__law_times : Stmt := top 50
abbrev s__law_letters : Stmt := top 51
abbrev s_law : Stmt := top 52
abbrev n__wall : List Str := ["k"]
theorem sc__wall : FnScope n__wall ["k"] (defScope s__wall) := ⟨rfl, rfl, rfl, by decide +kernel, rfl, by decide +kernel, by decide +kernel⟩
abbrev n_is_whole : List Str := ["value"]
theorem sc_is_whole : FnScope n_is_whole ["value"] (defScope s_is_whole) := ⟨rfl, rfl, rfl, by decide +kernel, rfl, by decide +kernel, by decide +kernel⟩
abbrev n_is_whole_to : List Str := ["value", "most"]
theorem sc_is_whole_to : FnScope n_is_whole_to ["value", "most"] (defScope s_is_whole_to) := ⟨rfl, rfl, rfl, by decide +kernel, rfl, by decide +kernel, by decide +kernel⟩
abbrev n_is_choice : List Str := ["value", "letters", "letter"]
theorem sc_is_choice : FnScope n_is_choice ["value", "letters"] (defScope s_is_choice) := ⟨rfl, rfl, rfl, by decide +kernel, rfl, by decide +kernel, by decide +kernel⟩
abbrev n_BadModeD_initD : List Str := ["self", "part"]
theorem sc_BadModeD_initD : FnScope n_BadModeD_initD ["self", "part"] (defScope s_BadModeD_initD) := ⟨rfl, rfl, rfl, by decide +kernel, rfl, by decide +kernel, by decide +kernel⟩
abbrev n_BadClauseD_initD : List Str := ["self", "at"]
theorem sc_BadClauseD_initD : FnScope n_BadClauseD_initD ["self", "at"] (defScope s_BadClauseD_initD) := ⟨rfl, rfl, rfl, by decide +kernel, rfl, by decide +kernel, by decide +kernel⟩
abbrev n_BadTextD_initD : List Str := ["self", "line", "word"]
theorem sc_BadTextD_initD : FnScope n_BadTextD_initD ["self", "line", "word"] (defScope s_BadTextD_initD) := ⟨rfl, rfl, rfl, by decide +kernel, rfl, by decide +kernel, by decide +kernel⟩
abbrev n_TooManyD_initD : List Str := ["self", "most"]
theorem sc_TooManyD_initD : FnScope n_TooManyD_initD ["self", "most"] (defScope s_TooManyD_initD) := ⟨rfl, rfl, rfl, by decide +kernel, rfl, by decide +kernel, by decide +kernel⟩
abbrev n_pattern_in : List Str := ["number", "weight", "bits"]
theorem sc_pattern_in : FnScope n_pattern_in ["number", "weight"] (defScope s_pattern_in) := ⟨rfl, rfl, rfl, by decide +kernel, rfl, by decide +kernel, by decide +kernel⟩
abbrev n_bits_of : List Str := ["pattern", "weight"]
theorem sc_bits_of : FnScope n_bits_of ["pattern", "weight"] (defScope s_bits_of) := ⟨rfl, rfl, rfl, by decide +kernel, rfl, by decide +kernel, by decide +kernel⟩
abbrev n_weight_of : List Str := ["letter"]
theorem sc_weight_of : FnScope n_weight_of ["letter"] (defScope s_weight_of) := ⟨rfl, rfl, rfl, by decide +kernel, rfl, by decide +kernel, by decide +kernel⟩
abbrev n_ModeD_initD : List Str := ["self", "number"]
theorem sc_ModeD_initD : FnScope n_ModeD_initD ["self", "number"] (defScope s_ModeD_initD) := ⟨rfl, rfl, rfl, by decide +kernel, rfl, by decide +kernel, by decide +kernel⟩
abbrev n_Mode_read : List Str := ["cls", "text", "number", "at", "sign"]
theorem sc_Mode_read : FnScope n_Mode_read ["cls", "text"] (defScope s_Mode_read) := ⟨rfl, rfl, rfl, by decide +kernel, rfl, by decide +kernel, by decide +kernel⟩
abbrev n_Mode_of : List Str := ["owner", "group", "others", "part", "digit"]
theorem sc_Mode_of : FnScope n_Mode_of ["owner", "group", "others"] (defScope s_Mode_of) := ⟨rfl, rfl, rfl, by decide +kernel, rfl, by decide +kernel, by decide +kernel⟩
abbrev n_Mode_uniform : List Str := ["pattern"]
theorem sc_Mode_uniform : FnScope n_Mode_uniform ["pattern"] (defScope s_Mode_uniform) := ⟨rfl, rfl, rfl, by decide +kernel, rfl, by decide +kernel, by decide +kernel⟩
abbrev n_Mode_number : List Str := ["self"]
theorem sc_Mode_number : FnScope n_Mode_number ["self"] (defScope s_Mode_number) := ⟨rfl, rfl, rfl, by decide +kernel, rfl, by decide +kernel, by decide +kernel⟩
abbrev n_Mode_digits : List Str := ["self"]
theorem sc_Mode_digits : FnScope n_Mode_digits ["self"] (defScope s_Mode_digits) := ⟨rfl, rfl, rfl, by decide +kernel, rfl, by decide +kernel, by decide +kernel⟩
abbrev n_Mode_pattern : List Str := ["self", "letter"]
theorem sc_Mode_pattern : FnScope n_Mode_pattern ["self", "letter"] (defScope s_Mode_pattern) := ⟨rfl, rfl, rfl, by decide +kernel, rfl, by decide +kernel, by decide +kernel⟩
abbrev n_Mode_with_pattern : List Str := ["self", "letter", "pattern"]
theorem sc_Mode_with_pattern : FnScope n_Mode_with_pattern ["self", "letter", "pattern"] (defScope s_Mode_with_pattern) := ⟨rfl, rfl, rfl, by decide +kernel, rfl, by decide +kernel, by decide +kernel⟩
abbrev n_ModeD_orD : List Str := ["self", "other"]
theorem sc_ModeD_orD : FnScope n_ModeD_orD ["self", "other"] (defScope s_ModeD_orD) := ⟨rfl, rfl, rfl, by decide +kernel, rfl, by decide +kernel, by decide +kernel⟩
abbrev n_ModeD_rorD : List Str := ["self", "other"]
theorem sc_ModeD_rorD : FnScope n_ModeD_rorD ["self", "other"] (defScope s_ModeD_rorD) := ⟨rfl, rfl, rfl, by decide +kernel, rfl, by decide +kernel, by decide +kernel⟩
abbrev n_ModeD_andD : List Str := ["self", "other"]
theorem sc_ModeD_andD : FnScope n_ModeD_andD ["self", "other"] (defScope s_ModeD_andD) := ⟨rfl, rfl, rfl, by decide +kernel, rfl, by decide +kernel, by decide +kernel⟩
abbrev n_ModeD_randD : List Str := ["self", "other"]
theorem sc_ModeD_randD : FnScope n_ModeD_randD ["self", "other"] (defScope s_ModeD_randD) := ⟨rfl, rfl, rfl, by decide +kernel, rfl, by decide +kernel, by decide +kernel⟩
abbrev n_ModeD_xorD : List Str := ["self", "other"]
theorem sc_ModeD_xorD : FnScope n_ModeD_xorD ["self", "other"] (defScope s_ModeD_xorD) := ⟨rfl, rfl, rfl, by decide +kernel, rfl, by decide +kernel, by decide +kernel⟩
abbrev n_ModeD_rxorD : List Str := ["self", "other"]
theorem sc_ModeD_rxorD : FnScope n_ModeD_rxorD ["self", "other"] (defScope s_ModeD_rxorD) := ⟨rfl, rfl, rfl, by decide +kernel, rfl, by decide +kernel, by decide +kernel⟩
abbrev n_ModeD_invertD : List Str := ["self"]
theorem sc_ModeD_invertD : FnScope n_ModeD_invertD ["self"] (defScope s_ModeD_invertD) := ⟨rfl, rfl, rfl, by decide +kernel, rfl, by decide +kernel, by decide +kernel⟩
abbrev n_ModeD_containsD : List Str := ["self", "bit", "bits"]
theorem sc_ModeD_containsD : FnScope n_ModeD_containsD ["self", "bit"] (defScope s_ModeD_containsD) := ⟨rfl, rfl, rfl, by decide +kernel, rfl, by decide +kernel, by decide +kernel⟩
abbrev n_ModeD_lenD : List Str := ["self", "bit"]
theorem sc_ModeD_lenD : FnScope n_ModeD_lenD ["self"] (defScope s_ModeD_lenD) := ⟨rfl, rfl, rfl, by decide +kernel, rfl, by decide +kernel, by decide +kernel⟩
abbrev n_ModeD_boolD : List Str := ["self"]
theorem sc_ModeD_boolD : FnScope n_ModeD_boolD ["self"] (defScope s_ModeD_boolD) := ⟨rfl, rfl, rfl, by decide +kernel, rfl, by decide +kernel, by decide +kernel⟩
abbrev n_ModeD_eqD : List Str := ["self", "other"]
theorem sc_ModeD_eqD : FnScope n_ModeD_eqD ["self", "other"] (defScope s_ModeD_eqD) := ⟨rfl, rfl, rfl, by decide +kernel, rfl, by decide +kernel, by decide +kernel⟩
abbrev n_ModeD_strD : List Str := ["self", "sign", "bit"]
theorem sc_ModeD_strD : FnScope n_ModeD_strD ["self"] (defScope s_ModeD_strD) := ⟨rfl, rfl, rfl, by decide +kernel, rfl, by decide +kernel, by decide +kernel⟩
abbrev n_ModeD_reprD : List Str := ["self"]
theorem sc_ModeD_reprD : FnScope n_ModeD_reprD ["self"] (defScope s_ModeD_reprD) := ⟨rfl, rfl, rfl, by decide +kernel, rfl, by decide +kernel, by decide +kernel⟩
abbrev n_may_stand : List Str := ["value"]
theorem sc_may_stand : FnScope n_may_stand ["value"] (defScope s_may_stand) := ⟨rfl, rfl, rfl, by decide +kernel, rfl, by decide +kernel, by decide +kernel⟩
abbrev n_number_of : List Str := ["mode"]
theorem sc_number_of : FnScope n_number_of ["mode"] (defScope s_number_of) := ⟨rfl, rfl, rfl, by decide +kernel, rfl, by decide +kernel, by decide +kernel⟩
abbrev n_is_meant : List Str := ["what", "letter", "pattern", "form"]
theorem sc_is_meant : FnScope n_is_meant ["what", "letter", "pattern", "form"] (defScope s_is_meant) := ⟨rfl, rfl, rfl, by decide +kernel, rfl, by decide +kernel, by decide +kernel⟩
abbrev n_pattern_behind : List Str := ["mask", "sign", "meant", "pattern"]
theorem sc_pattern_behind : FnScope n_pattern_behind ["mask", "sign", "meant", "pattern"] (defScope s_pattern_behind) := ⟨rfl, rfl, rfl, by decide +kernel, rfl, by decide +kernel, by decide +kernel⟩
abbrev n_part_of : List Str := ["who", "sign", "what", "letter", "form", "mask", "told", "pattern"]
theorem sc_part_of : FnScope n_part_of ["who", "sign", "what", "letter", "form"] (defScope s_part_of) := ⟨rfl, rfl, rfl, by decide +kernel, rfl, by decide +kernel, by decide +kernel⟩
abbrev n_in_turn : List Str := ["one", "other", "first", "later", "pattern"]
theorem sc_in_turn : FnScope n_in_turn ["one", "other"] (defScope s_in_turn) := ⟨rfl, rfl, rfl, by decide +kernel, rfl, by decide +kernel, by decide +kernel⟩
abbrev n_tables_of : List Str := ["clauses", "tables", "clause"]
theorem sc_tables_of : FnScope n_tables_of ["clauses"] (defScope s_tables_of) := ⟨rfl, rfl, rfl, by decide +kernel, rfl, by decide +kernel, by decide +kernel⟩
abbrev n_parts_for : List Str := ["tables", "form"]
theorem sc_parts_for : FnScope n_parts_for ["tables", "form"] (defScope s_parts_for) := ⟨rfl, rfl, rfl, by decide +kernel, rfl, by decide +kernel, by decide +kernel⟩
abbrev n_number_behind : List Str := ["tables", "number", "form", "reads", "writes", "enters"]
theorem sc_number_behind : FnScope n_number_behind ["tables", "number", "form"] (defScope s_number_behind) := ⟨rfl, rfl, rfl, by decide +kernel, rfl, by decide +kernel, by decide +kernel⟩
abbrev n_letters_of : List Str := ["digit", "letter"]
theorem sc_letters_of : FnScope n_letters_of ["digit"] (defScope s_letters_of) := ⟨rfl, rfl, rfl, by decide +kernel, rfl, by decide +kernel, by decide +kernel⟩
abbrev n_ClauseD_initD : List Str := ["self", "who", "sign", "what", "letter", "form"]
theorem sc_ClauseD_initD : FnScope n_ClauseD_initD ["self", "who", "sign", "what"] (defScope s_ClauseD_initD) := ⟨rfl, rfl, rfl, by decide +kernel, rfl, by decide +kernel, by decide +kernel⟩
abbrev n_Clause_read : List Str := ["cls", "text", "at", "sign"]
theorem sc_Clause_read : FnScope n_Clause_read ["cls", "text"] (defScope s_Clause_read) := ⟨rfl, rfl, rfl, by decide +kernel, rfl, by decide +kernel, by decide +kernel⟩
abbrev n_Clause_who : List Str := ["self"]
theorem sc_Clause_who : FnScope n_Clause_who ["self"] (defScope s_Clause_who) := ⟨rfl, rfl, rfl, by decide +kernel, rfl, by decide +kernel, by decide +kernel⟩
abbrev n_Clause_sign : List Str := ["self"]
theorem sc_Clause_sign : FnScope n_Clause_sign ["self"] (defScope s_Clause_sign) := ⟨rfl, rfl, rfl, by decide +kernel, rfl, by decide +kernel, by decide +kernel⟩
abbrev n_Clause_what : List Str := ["self"]
theorem sc_Clause_what : FnScope n_Clause_what ["self"] (defScope s_Clause_what) := ⟨rfl, rfl, rfl, by decide +kernel, rfl, by decide +kernel, by decide +kernel⟩
abbrev n_ClauseD_callD : List Str := ["self", "mode", "form"]
theorem sc_ClauseD_callD : FnScope n_ClauseD_callD ["self", "mode", "form"] (defScope s_ClauseD_callD) := ⟨rfl, rfl, rfl, by decide +kernel, rfl, by decide +kernel, by decide +kernel⟩
abbrev n_ClauseD_eqD : List Str := ["self", "other"]
theorem sc_ClauseD_eqD : FnScope n_ClauseD_eqD ["self", "other"] (defScope s_ClauseD_eqD) := ⟨rfl, rfl, rfl, by decide +kernel, rfl, by decide +kernel, by decide +kernel⟩
abbrev n_ClauseD_strD : List Str := ["self", "who"]
theorem sc_ClauseD_strD : FnScope n_ClauseD_strD ["self"] (defScope s_ClauseD_strD) := ⟨rfl, rfl, rfl, by decide +kernel, rfl, by decide +kernel, by decide +kernel⟩
abbrev n_ChangeD_initD : List Str := ["self", "clauses", "at", "clause"]
theorem sc_ChangeD_initD : FnScope n_ChangeD_initD ["self"] (defScope s_ChangeD_initD) := ⟨rfl, rfl, rfl, by decide +kernel, rfl, by decide +kernel, by decide +kernel⟩
abbrev n_Change_read : List Str := ["cls", "text", "parts", "clauses", "at", "part"]
theorem sc_Change_read : FnScope n_Change_read ["cls", "text"] (defScope s_Change_read) := ⟨rfl, rfl, rfl, by decide +kernel, rfl, by decide +kernel, by decide +kernel⟩
abbrev n_Change_setting : List Str := ["mode", "owner", "group", "others"]
theorem sc_Change_setting : FnScope n_Change_setting ["mode"] (defScope s_Change_setting) := ⟨rfl, rfl, rfl, by decide +kernel, rfl, by decide +kernel, by decide +kernel⟩
abbrev n_Change_clauses : List Str := ["self"]
theorem sc_Change_clauses : FnScope n_Change_clauses ["self"] (defScope s_Change_clauses) := ⟨rfl, rfl, rfl, by decide +kernel, rfl, by decide +kernel, by decide +kernel⟩
abbrev n_Change_tables : List Str := ["self"]
theorem sc_Change_tables : FnScope n_Change_tables ["self"] (defScope s_Change_tables) := ⟨rfl, rfl, rfl, by decide +kernel, rfl, by decide +kernel, by decide +kernel⟩
abbrev n_ChangeD_callD : List Str := ["self", "mode", "form"]
theorem sc_ChangeD_callD : FnScope n_ChangeD_callD ["self", "mode", "form"] (defScope s_ChangeD_callD) := ⟨rfl, rfl, rfl, by decide +kernel, rfl, by decide +kernel, by decide +kernel⟩
abbrev n_ChangeD_mulD : List Str := ["self", "other", "clauses"]
theorem sc_ChangeD_mulD : FnScope n_ChangeD_mulD ["self", "other"] (defScope s_ChangeD_mulD) := ⟨rfl, rfl, rfl, by decide +kernel, rfl, by decide +kernel, by decide +kernel⟩
abbrev n_Change_like : List Str := ["self", "other"]
theorem sc_Change_like : FnScope n_Change_like ["self", "other"] (defScope s_Change_like) := ⟨rfl, rfl, rfl, by decide +kernel, rfl, by decide +kernel, by decide +kernel⟩
abbrev n_Change_cycle : List Str := ["self", "form", "once", "so_far", "seen", "lead"]
theorem sc_Change_cycle : FnScope n_Change_cycle ["self", "form"] (defScope s_Change_cycle) := ⟨rfl, rfl, rfl, by decide +kernel, rfl, by decide +kernel, by decide +kernel⟩
abbrev n_ChangeD_eqD : List Str := ["self", "other"]
theorem sc_ChangeD_eqD : FnScope n_ChangeD_eqD ["self", "other"] (defScope s_ChangeD_eqD) := ⟨rfl, rfl, rfl, by decide +kernel, rfl, by decide +kernel, by decide +kernel⟩
abbrev n_ChangeD_strD : List Str := ["self", "clause"]
theorem sc_ChangeD_strD : FnScope n_ChangeD_strD ["self"] (defScope s_ChangeD_strD) := ⟨rfl, rfl, rfl, by decide +kernel, rfl, by decide +kernel, by decide +kernel⟩
abbrev n__law_pen : List Str := ["_law_script"]
theorem sc__law_pen : FnScope n__law_pen ["_law_script"] (defScope s__law_pen) := ⟨rfl, rfl, rfl, by decide +kernel, rfl, by decide +kernel, by decide +kernel⟩
abbrev n__law_draw : List Str := ["_law_pen_here", "_law_many", "_law_digit", "_law_at", "_law_cell", "_law_great", "_law_mixed"]
theorem sc__law_draw : FnScope n__law_draw ["_law_pen_here", "_law_many"] (defScope s__law_draw) := ⟨rfl, rfl, rfl, by decide +kernel, rfl, by decide +kernel, by decide +kernel⟩
abbrev n__law_pick : List Str := ["_law_pen_here", "_law_some"]
theorem sc__law_pick : FnScope n__law_pick ["_law_pen_here", "_law_some"] (defScope s__law_pick) := ⟨rfl, rfl, rfl, by decide +kernel, rfl, by decide +kernel, by decide +kernel⟩
abbrev n__law_text : List Str := ["_law_told"]
theorem sc__law_text : FnScope n__law_text ["_law_told"] (defScope s__law_text) := ⟨rfl, rfl, rfl, by decide +kernel, rfl, by decide +kernel, by decide +kernel⟩
abbrev n__law_clause : List Str := ["_law_pen_here", "_law_who", "_law_what"]
theorem sc__law_clause : FnScope n__law_clause ["_law_pen_here"] (defScope s__law_clause) := ⟨rfl, rfl, rfl, by decide +kernel, rfl, by decide +kernel, by decide +kernel⟩
abbrev n__law_change : List Str := ["_law_pen_here", "_law_most", "_law_k"]
theorem sc__law_change : FnScope n__law_change ["_law_pen_here", "_law_most"] (defScope s__law_change) := ⟨rfl, rfl, rfl, by decide +kernel, rfl, by decide +kernel, by decide +kernel⟩
abbrev n__law_change_text : List Str := ["_law_change_here", "_law_told"]
theorem sc__law_change_text : FnScope n__law_change_text ["_law_change_here"] (defScope s__law_change_text) := ⟨rfl, rfl, rfl, by decide +kernel, rfl, by decide +kernel, by decide +kernel⟩
abbrev n__law_clause_done : List Str := ["_law_told", "_law_number", "_law_form_so", "_law_who", "_law_sign", "_law_what", "_law_digits", "_law_meant", "_law_later", "_law_letter", "_law_gained"]
theorem sc__law_clause_done : FnScope n__law_clause_done ["_law_told", "_law_number", "_law_form_so"] (defScope s__law_clause_done) := ⟨rfl, rfl, rfl, by decide +kernel, rfl, by decide +kernel, by decide +kernel⟩
abbrev n__law_change_done : List Str := ["_law_change_here", "_law_number", "_law_form_so", "_law_told"]
theorem sc__law_change_done : FnScope n__law_change_done ["_law_change_here", "_law_number", "_law_form_so"] (defScope s__law_change_done) := ⟨rfl, rfl, rfl, by decide +kernel, rfl, by decide +kernel, by decide +kernel⟩
abbrev n__law_mode : List Str := ["_law_pen_here", "_law_some"]
theorem sc__law_mode : FnScope n__law_mode ["_law_pen_here"] (defScope s__law_mode) := ⟨rfl, rfl, rfl, by decide +kernel, rfl, by decide +kernel, by decide +kernel⟩
abbrev n__law_cycle : List Str := ["_law_change_here", "_law_form_so", "_law_now", "_law_seen", "_law_p", "_law_number"]
theorem sc__law_cycle : FnScope n__law_cycle ["_law_change_here", "_law_form_so"] (defScope s__law_cycle) := ⟨rfl, rfl, rfl, by decide +kernel, rfl, by decide +kernel, by decide +kernel⟩
abbrev n__law_times : List Str := ["_law_change_here", "_law_number", "_law_form_so", "_law_many", "_law_turn"]
theorem sc__law_times : FnScope n__law_times ["_law_change_here", "_law_number", "_law_form_so", "_law_many"] (defScope s__law_times) := ⟨rfl, rfl, rfl, by decide +kernel, rfl, by decide +kernel, by decide +kernel⟩
abbrev n__law_letters : List Str := ["_law_digit"]
theorem sc__law_letters : FnScope n__law_letters ["_law_digit"] (defScope s__law_letters) := ⟨rfl, rfl, rfl, by decide +kernel, rfl, by decide +kernel, by decide +kernel⟩
abbrev n_law : List Str := ["_law_script", "_law_pen_here", "_law_turn", "_law_told", "_law_number", "_law_change_here", "_law_form_so", "_law_lead", "_law_period", "_law_far_so", "_law_mode_so", "_law_again", "_law_first", "_law_goal", "_law_text_here"]
theorem sc_law : FnScope n_law ["_law_script"] (defScope s_law) := ⟨rfl, rfl, rfl, by decide +kernel, rfl, by decide +kernel, by decide +kernel⟩
end KX
set_option Elab.async false
set_option linter.all false
set_option maxRecDepth 100000
set_option maxHeartbeats 4000000
namespace KX
open PySem PySem.Spec PyProof.Rows L2 Evl
/-! tactics by name -/
local macro_rules | `(tactic| walk_at "ev") => `(tactic| repeat' (first | exact ev_c | exact ev_var rfl | exact rv_I0 | refine' rv_I ?_ | refine' rv_eq ?_ | refine' rv_ne ?_ | refine' ev_op ?_ ?_ ?_ | exact ea_nil | refine' ea_cons ?_ ?_ | refine' et_test ?_ | refine' et_B ?_ | refine' et_not ?_ | refine' ev_notV ?_))
/-! pure promises -/
def patN (n w : Nat) : Nat := 4 * (n / w / 64 % 2) + 2 * (n / w / 8 % 2) + n / w % 2
def bitsN (p w : Nat) : Nat := (64 * (p / 4 % 2) + 8 * (p / 2 % 2) + p % 2) * w
def spPat : Sp := fun vs H Q _ => ∃ n w : Nat, vs = [.int n, .int w] ∧ n < 512 ∧ (w = 1 ∨ w = 2 ∨ w = 4) ∧ ∀ H', Ex H H' → Q (.int (patN n w : Nat)) H'
def spBits : Sp := fun vs H Q _ => ∃ p w : Nat, vs = [.int p, .int w] ∧ p < 8 ∧ (w = 1 ∨ w = 2 ∨ w = 4) ∧ ∀ H', Ex H H' → Q (.int (bitsN p w : Nat)) H'
theorem all_nat {n : Nat} {p : Nat → Bool} (h : (List.range n).all p = true) : ∀ i, i < n → p i = true := fun i hi => List.all_eq_true.mp h i (List.mem_range.mpr hi)
theorem pat_is : ∀ w : Nat, (w = 1 ∨ w = 2 ∨ w = 4) → ∀ n : Nat, n < 512 → Builtin.bitOr (Builtin.bitOr (Builtin.bitAnd ((n : Int) / (w : Int) / 2 ^ (4 : Int).toNat) 4) (Builtin.bitAnd ((n : Int) / (w : Int) / 2 ^ (2 : Int).toNat) 2)) (Builtin.bitAnd ((n : Int) / (w : Int)) 1) = (patN n w : Nat) := by
  have h : (([1, 2, 4] : List Nat).all fun (w : Nat) => (List.range 512).all fun (n : Nat) => decide (Builtin.bitOr (Builtin.bitOr (Builtin.bitAnd ((n : Int) / (w : Int) / 2 ^ (4 : Int).toNat) 4) (Builtin.bitAnd ((n : Int) / (w : Int) / 2 ^ (2 : Int).toNat) 2)) (Builtin.bitAnd ((n : Int) / (w : Int)) 1) = (patN n w : Nat))) = true := by decide +kernel
  intro w hw n hn
  have h1 := List.all_eq_true.mp h w (by rcases hw with e | e | e <;> subst e <;> decide)
  exact of_decide_eq_true (all_nat h1 n hn)
theorem bits_is : ∀ w : Nat, (w = 1 ∨ w = 2 ∨ w = 4) → ∀ p : Nat, p < 8 → Builtin.bitOr (Builtin.bitOr (Builtin.bitAnd (p : Int) 4 * 2 ^ (4 : Int).toNat) (Builtin.bitAnd (p : Int) 2 * 2 ^ (2 : Int).toNat)) (Builtin.bitAnd (p : Int) 1) * (w : Int) = (bitsN p w : Nat) := by
  have h : (([1, 2, 4] : List Nat).all fun (w : Nat) => (List.range 8).all fun (p : Nat) => decide (Builtin.bitOr (Builtin.bitOr (Builtin.bitAnd (p : Int) 4 * 2 ^ (4 : Int).toNat) (Builtin.bitAnd (p : Int) 2 * 2 ^ (2 : Int).toNat)) (Builtin.bitAnd (p : Int) 1) * (w : Int) = (bitsN p w : Nat))) = true := by decide +kernel
  intro w hw n hn
  have h1 := List.all_eq_true.mp h w (by rcases hw with e | e | e <;> subst e <;> decide)
  exact of_decide_eq_true (all_nat h1 n hn)
theorem and_lt : ∀ p : Nat, p < 8 → (Builtin.bitAnd (p : Int) 4).natAbs < 2 ^ 64 ∧ (Builtin.bitAnd (p : Int) 2).natAbs < 2 ^ 64 := by
  have h : ((List.range 8).all fun (p : Nat) => decide ((Builtin.bitAnd (p : Int) 4).natAbs < 2 ^ 64 ∧ (Builtin.bitAnd (p : Int) 2).natAbs < 2 ^ 64)) = true := by decide +kernel
  exact fun p hp => of_decide_eq_true (all_nat h p hp)
section
variable {P : Program} {w : World} {K : PySem.W.Frag} {mg : Str → Option Value} {base : Heap}
theorem ok_pattern_in {f : Addr} {fd : FuncData} (F : Fun K "pattern_in" "pattern_in" s_pattern_in f fd) : FnOk P w K mg base CX0 1 f fd ["number", "weight"] spPat := by
  refine F.ok sc_pattern_in (fun vs H Q E h => ?_) (fun cdv A outer s H vs Q E hr h => ?_)
  · obtain ⟨_, _, rfl, _⟩ := h
    rfl
  · obtain ⟨n, w, rfl, hn, hw, k⟩ := h
    refine ⟨_, (pss_cons (ps_set (i := 2) sc_pattern_in.nd rfl (Or.inl rfl) (pe_op op_fdiv (pv 0) (pv 1)))
    (pss_one (ps_ret (pe_op op_or (pe_op op_or (pe_op op_and (pe_op op_shr (pv 2) pe_int) pe_int) (pe_op op_and (pe_op op_shr (pv 2) pe_int) pe_int)) (pe_op op_and (pv 2) pe_int))))), ?_⟩
    refine q_asg (by walk_at "ev"; exact ⟨by omega, by omega⟩) fun H1 e1 => ?_
    refine s_ret (v := .int (patN n w : Nat)) (ev_is (by walk_at "ev"; all_goals decide) (congrArg V.int (pat_is w hw n hn))) fun H2 e2 => ?_
    exact k H2 (e1.trans e2)
theorem ok_bits_of {f : Addr} {fd : FuncData} (F : Fun K "bits_of" "bits_of" s_bits_of f fd) : FnOk P w K mg base CX0 1 f fd ["pattern", "weight"] spBits := by
  refine F.ok sc_bits_of (fun vs H Q E h => ?_) (fun cdv A outer s H vs Q E hr h => ?_)
  · obtain ⟨_, _, rfl, _⟩ := h
    rfl
  · obtain ⟨n, w, rfl, hn, hw, k⟩ := h
    refine ⟨_, (pss_one (ps_ret (pe_op op_mul (pe_op op_or (pe_op op_or (pe_op op_shl (pe_op op_and (pv 0) pe_int) pe_int) (pe_op op_shl (pe_op op_and (pv 0) pe_int) pe_int)) (pe_op op_and (pv 0) pe_int)) (pv 1)))), ?_⟩
    refine s_ret (v := .int (bitsN n w : Nat)) (ev_is (by walk_at "ev"; exact ⟨by decide, by decide, (and_lt n hn).1⟩; exact ⟨by decide, by decide, (and_lt n hn).2⟩; exact Or.inr ⟨by omega, by omega⟩) (congrArg V.int (bits_is w hw n hn))) fun H2 e2 => ?_
    exact k H2 e2
end
end KX
set_option Elab.async false
set_option linter.all false
set_option maxRecDepth 100000
set_option maxHeartbeats 4000000
namespace KX
open PySem PySem.Spec PyProof.Rows L2 Evl
/-- C.m is a staticmethod: its record at p, its def at g -/
structure SMet (K : PySem.W.Frag) (C : Addr) (m : Str) (p g : Addr) : Prop where
  at_ : PySem.W.findCls K (.ref C) (.type "type") m = some (.get (.builtin "staticmethod.__get__") (.ref p) .none (.ref C))
  rc : ∃ rest, PySem.W.recIn K p "staticmethod" = some (.ref g :: rest)
  kp : PySem.W.keepIn K (.ref g) = true
def whats : List Str := ["r", "w", "x", "X", "rX", "rwx", "rwX", "wx", "rx", "", "xX", "rwxX", "rw"]
structure Ads where
  f_is_whole : Addr
  d_is_whole : FuncData
  f_is_whole_to : Addr
  d_is_whole_to : FuncData
  f_is_choice : Addr
  d_is_choice : FuncData
  f_pattern_in : Addr
  d_pattern_in : FuncData
  f_bits_of : Addr
  d_bits_of : FuncData
  f_number_of : Addr
  d_number_of : FuncData
  f_is_meant : Addr
  d_is_meant : FuncData
  f_pattern_behind : Addr
  d_pattern_behind : FuncData
  f_part_of : Addr
  d_part_of : FuncData
  f_parts_for : Addr
  d_parts_for : FuncData
  f_number_behind : Addr
  d_number_behind : FuncData
  f__law_pen : Addr
  d__law_pen : FuncData
  f__law_draw : Addr
  d__law_draw : FuncData
  f__law_pick : Addr
  d__law_pick : FuncData
  f__law_clause : Addr
  d__law_clause : FuncData
  f__law_clause_done : Addr
  d__law_clause_done : FuncData
  f__law_mode : Addr
  d__law_mode : FuncData
  f_law : Addr
  d_law : FuncData
  f_in_turn : Addr
  d_in_turn : FuncData
  f_tables_of : Addr
  d_tables_of : FuncData
  f_letters_of : Addr
  d_letters_of : FuncData
  f__law_text : Addr
  d__law_text : FuncData
  f__law_change : Addr
  d__law_change : FuncData
  f__law_change_text : Addr
  d__law_change_text : FuncData
  f__law_change_done : Addr
  d__law_change_done : FuncData
  f__law_cycle : Addr
  d__law_cycle : FuncData
  f__law_times : Addr
  d__law_times : FuncData
  f__law_letters : Addr
  d__law_letters : FuncData
  f_Mode : Addr
  f_ModeD_initD : Addr
  d_ModeD_initD : FuncData
  f_Mode_number : Addr
  d_Mode_number : FuncData
  p_Mode_number : Addr
  f_Mode_digits : Addr
  d_Mode_digits : FuncData
  p_Mode_digits : Addr
  f_ModeD_strD : Addr
  d_ModeD_strD : FuncData
  f_ModeD_eqD : Addr
  d_ModeD_eqD : FuncData
  f_Clause : Addr
  f_ClauseD_initD : Addr
  d_ClauseD_initD : FuncData
  f_Clause_who : Addr
  d_Clause_who : FuncData
  p_Clause_who : Addr
  f_Clause_sign : Addr
  d_Clause_sign : FuncData
  p_Clause_sign : Addr
  f_Clause_what : Addr
  d_Clause_what : FuncData
  p_Clause_what : Addr
  f_ClauseD_strD : Addr
  d_ClauseD_strD : FuncData
  f_ClauseD_eqD : Addr
  d_ClauseD_eqD : FuncData
  f_ClauseD_callD : Addr
  d_ClauseD_callD : FuncData
  f_Clause_read : Addr
  d_Clause_read : FuncData
  p_Clause_read : Addr
  f_Change : Addr
  f_ChangeD_initD : Addr
  d_ChangeD_initD : FuncData
  f_Change_clauses : Addr
  d_Change_clauses : FuncData
  p_Change_clauses : Addr
  f_Change_tables : Addr
  d_Change_tables : FuncData
  p_Change_tables : Addr
  f_Change_cycle : Addr
  d_Change_cycle : FuncData
  f_ChangeD_strD : Addr
  d_ChangeD_strD : FuncData
  f_ChangeD_eqD : Addr
  d_ChangeD_eqD : FuncData
  f_ChangeD_callD : Addr
  d_ChangeD_callD : FuncData
  f_Change_read : Addr
  d_Change_read : FuncData
  p_Change_read : Addr
  f_Change_setting : Addr
  d_Change_setting : FuncData
  p_Change_setting : Addr
  k_SIGNS : Addr
  k_CLASSES : Addr
  k_WEIGHTS : Addr
  k_PATTERNS : Addr
  k_PARTS : Addr
  k_NINE_BITS : Addr
  x_BadClause : Addr
structure Txt (w : World) (K : PySem.W.Frag) (mg : Str → Option Value) (a : Ads) : Prop where
  b_isinstance : mg "isinstance" = none
  b_int : mg "int" = none
  b_bool : mg "bool" = none
  b_str : mg "str" = none
  b_sum : mg "sum" = none
  b_tuple : mg "tuple" = none
  b_zip : mg "zip" = none
  b_list : mg "list" = none
  b_len : mg "len" = none
  b_abs : mg "abs" = none
  b_range : mg "range" = none
  b_dict : mg "dict" = none
  b_enumerate : mg "enumerate" = none
  b_repr : mg "repr" = none
  mg_is_whole : mg "is_whole" = some (.ref a.f_is_whole)
  fn_is_whole : Fun K "is_whole" "is_whole" s_is_whole a.f_is_whole a.d_is_whole
  mg_is_whole_to : mg "is_whole_to" = some (.ref a.f_is_whole_to)
  fn_is_whole_to : Fun K "is_whole_to" "is_whole_to" s_is_whole_to a.f_is_whole_to a.d_is_whole_to
  mg_is_choice : mg "is_choice" = some (.ref a.f_is_choice)
  fn_is_choice : Fun K "is_choice" "is_choice" s_is_choice a.f_is_choice a.d_is_choice
  mg_pattern_in : mg "pattern_in" = some (.ref a.f_pattern_in)
  fn_pattern_in : Fun K "pattern_in" "pattern_in" s_pattern_in a.f_pattern_in a.d_pattern_in
  mg_bits_of : mg "bits_of" = some (.ref a.f_bits_of)
  fn_bits_of : Fun K "bits_of" "bits_of" s_bits_of a.f_bits_of a.d_bits_of
  mg_number_of : mg "number_of" = some (.ref a.f_number_of)
  fn_number_of : Fun K "number_of" "number_of" s_number_of a.f_number_of a.d_number_of
  mg_is_meant : mg "is_meant" = some (.ref a.f_is_meant)
  fn_is_meant : Fun K "is_meant" "is_meant" s_is_meant a.f_is_meant a.d_is_meant
  mg_pattern_behind : mg "pattern_behind" = some (.ref a.f_pattern_behind)
  fn_pattern_behind : Fun K "pattern_behind" "pattern_behind" s_pattern_behind a.f_pattern_behind a.d_pattern_behind
  mg_part_of : mg "part_of" = some (.ref a.f_part_of)
  fn_part_of : Fun K "part_of" "part_of" s_part_of a.f_part_of a.d_part_of
  mg_parts_for : mg "parts_for" = some (.ref a.f_parts_for)
  fn_parts_for : Fun K "parts_for" "parts_for" s_parts_for a.f_parts_for a.d_parts_for
  mg_number_behind : mg "number_behind" = some (.ref a.f_number_behind)
  fn_number_behind : Fun K "number_behind" "number_behind" s_number_behind a.f_number_behind a.d_number_behind
  mg__law_pen : mg "_law_pen" = some (.ref a.f__law_pen)
  fn__law_pen : Fun K "_law_pen" "_law_pen" s__law_pen a.f__law_pen a.d__law_pen
  mg__law_draw : mg "_law_draw" = some (.ref a.f__law_draw)
  fn__law_draw : Fun K "_law_draw" "_law_draw" s__law_draw a.f__law_draw a.d__law_draw
  mg__law_pick : mg "_law_pick" = some (.ref a.f__law_pick)
  fn__law_pick : Fun K "_law_pick" "_law_pick" s__law_pick a.f__law_pick a.d__law_pick
  mg__law_clause : mg "_law_clause" = some (.ref a.f__law_clause)
  fn__law_clause : Fun K "_law_clause" "_law_clause" s__law_clause a.f__law_clause a.d__law_clause
  mg__law_clause_done : mg "_law_clause_done" = some (.ref a.f__law_clause_done)
  fn__law_clause_done : Fun K "_law_clause_done" "_law_clause_done" s__law_clause_done a.f__law_clause_done a.d__law_clause_done
  mg__law_mode : mg "_law_mode" = some (.ref a.f__law_mode)
  fn__law_mode : Fun K "_law_mode" "_law_mode" s__law_mode a.f__law_mode a.d__law_mode
  mg_law : mg "law" = some (.ref a.f_law)
  fn_law : Fun K "law" "law" s_law a.f_law a.d_law
  mg_in_turn : mg "in_turn" = some (.ref a.f_in_turn)
  fn_in_turn : Fun K "in_turn" "in_turn" s_in_turn a.f_in_turn a.d_in_turn
  mg_tables_of : mg "tables_of" = some (.ref a.f_tables_of)
  fn_tables_of : Fun K "tables_of" "tables_of" s_tables_of a.f_tables_of a.d_tables_of
  mg_letters_of : mg "letters_of" = some (.ref a.f_letters_of)
  fn_letters_of : Fun K "letters_of" "letters_of" s_letters_of a.f_letters_of a.d_letters_of
  mg__law_text : mg "_law_text" = some (.ref a.f__law_text)
  fn__law_text : Fun K "_law_text" "_law_text" s__law_text a.f__law_text a.d__law_text
  mg__law_change : mg "_law_change" = some (.ref a.f__law_change)
  fn__law_change : Fun K "_law_change" "_law_change" s__law_change a.f__law_change a.d__law_change
  mg__law_change_text : mg "_law_change_text" = some (.ref a.f__law_change_text)
  fn__law_change_text : Fun K "_law_change_text" "_law_change_text" s__law_change_text a.f__law_change_text a.d__law_change_text
  mg__law_change_done : mg "_law_change_done" = some (.ref a.f__law_change_done)
  fn__law_change_done : Fun K "_law_change_done" "_law_change_done" s__law_change_done a.f__law_change_done a.d__law_change_done
  mg__law_cycle : mg "_law_cycle" = some (.ref a.f__law_cycle)
  fn__law_cycle : Fun K "_law_cycle" "_law_cycle" s__law_cycle a.f__law_cycle a.d__law_cycle
  mg__law_times : mg "_law_times" = some (.ref a.f__law_times)
  fn__law_times : Fun K "_law_times" "_law_times" s__law_times a.f__law_times a.d__law_times
  mg__law_letters : mg "_law_letters" = some (.ref a.f__law_letters)
  fn__law_letters : Fun K "_law_letters" "_law_letters" s__law_letters a.f__law_letters a.d__law_letters
  mg_Mode : mg "Mode" = some (.ref a.f_Mode)
  c_Mode : Cls K a.f_Mode
  n_number_Mode : NoAttr K a.f_Mode "_number"
  mk_Mode : Mk K a.f_Mode a.f_ModeD_initD
  fn_ModeD_initD : Fun K "__init__" "Mode.__init__" s_ModeD_initD a.f_ModeD_initD a.d_ModeD_initD
  p_Mode_number : PropOf K a.f_Mode "number" a.p_Mode_number a.f_Mode_number
  fn_Mode_number : Fun K "number" "Mode.number" s_Mode_number a.f_Mode_number a.d_Mode_number
  p_Mode_digits : PropOf K a.f_Mode "digits" a.p_Mode_digits a.f_Mode_digits
  fn_Mode_digits : Fun K "digits" "Mode.digits" s_Mode_digits a.f_Mode_digits a.d_Mode_digits
  m_ModeD_strD : Meth K a.f_Mode "__str__" a.f_ModeD_strD
  fn_ModeD_strD : Fun K "__str__" "Mode.__str__" s_ModeD_strD a.f_ModeD_strD a.d_ModeD_strD
  m_ModeD_eqD : Meth K a.f_Mode "__eq__" a.f_ModeD_eqD
  fn_ModeD_eqD : Fun K "__eq__" "Mode.__eq__" s_ModeD_eqD a.f_ModeD_eqD a.d_ModeD_eqD
  r_Mode : ClX.CRead K a.f_Mode (.type "type")
  k_Mode_MOST : ∃ t, ClX.CVal K a.f_Mode (.type "type") "MOST" (.int 511) (.int 511 t)
  ia_Mode : PySem.W.findIn K (.ref a.f_Mode) "__class__" = some (some (.builtin "object.__class__"))
  im_Mode : PySem.W.mroIn K a.f_Mode (.type "object") = some true
  is_Mode : PySem.W.kitOne K (.ref a.f_Mode) (.ref a.f_Mode) = some true
  ii_Mode : PySem.W.kitOne K (.type "int") (.ref a.f_Mode) = some false
  mg_Clause : mg "Clause" = some (.ref a.f_Clause)
  c_Clause : Cls K a.f_Clause
  n_who_Clause : NoAttr K a.f_Clause "_who"
  n_sign_Clause : NoAttr K a.f_Clause "_sign"
  n_what_Clause : NoAttr K a.f_Clause "_what"
  n_tables_Clause : NoAttr K a.f_Clause "_tables"
  mk_Clause : Mk K a.f_Clause a.f_ClauseD_initD
  fn_ClauseD_initD : Fun K "__init__" "Clause.__init__" s_ClauseD_initD a.f_ClauseD_initD a.d_ClauseD_initD
  p_Clause_who : PropOf K a.f_Clause "who" a.p_Clause_who a.f_Clause_who
  fn_Clause_who : Fun K "who" "Clause.who" s_Clause_who a.f_Clause_who a.d_Clause_who
  p_Clause_sign : PropOf K a.f_Clause "sign" a.p_Clause_sign a.f_Clause_sign
  fn_Clause_sign : Fun K "sign" "Clause.sign" s_Clause_sign a.f_Clause_sign a.d_Clause_sign
  p_Clause_what : PropOf K a.f_Clause "what" a.p_Clause_what a.f_Clause_what
  fn_Clause_what : Fun K "what" "Clause.what" s_Clause_what a.f_Clause_what a.d_Clause_what
  m_ClauseD_strD : Meth K a.f_Clause "__str__" a.f_ClauseD_strD
  fn_ClauseD_strD : Fun K "__str__" "Clause.__str__" s_ClauseD_strD a.f_ClauseD_strD a.d_ClauseD_strD
  m_ClauseD_eqD : Meth K a.f_Clause "__eq__" a.f_ClauseD_eqD
  fn_ClauseD_eqD : Fun K "__eq__" "Clause.__eq__" s_ClauseD_eqD a.f_ClauseD_eqD a.d_ClauseD_eqD
  o_Clause : StX.CallO K a.f_Clause a.f_ClauseD_callD
  fn_ClauseD_callD : Fun K "__call__" "Clause.__call__" s_ClauseD_callD a.f_ClauseD_callD a.d_ClauseD_callD
  m_Clause_read : ClX.CMet K a.f_Clause (.type "type") "read" a.p_Clause_read a.f_Clause_read
  fn_Clause_read : Fun K "read" "Clause.read" s_Clause_read a.f_Clause_read a.d_Clause_read
  r_Clause : ClX.CRead K a.f_Clause (.type "type")
  ia_Clause : PySem.W.findIn K (.ref a.f_Clause) "__class__" = some (some (.builtin "object.__class__"))
  im_Clause : PySem.W.mroIn K a.f_Clause (.type "object") = some true
  is_Clause : PySem.W.kitOne K (.ref a.f_Clause) (.ref a.f_Clause) = some true
  ii_Clause : PySem.W.kitOne K (.type "int") (.ref a.f_Clause) = some false
  mg_Change : mg "Change" = some (.ref a.f_Change)
  c_Change : Cls K a.f_Change
  n_clauses_Change : NoAttr K a.f_Change "_clauses"
  n_tables_Change : NoAttr K a.f_Change "_tables"
  mk_Change : Mk K a.f_Change a.f_ChangeD_initD
  fn_ChangeD_initD : Fun K "__init__" "Change.__init__" s_ChangeD_initD a.f_ChangeD_initD a.d_ChangeD_initD
  p_Change_clauses : PropOf K a.f_Change "clauses" a.p_Change_clauses a.f_Change_clauses
  fn_Change_clauses : Fun K "clauses" "Change.clauses" s_Change_clauses a.f_Change_clauses a.d_Change_clauses
  p_Change_tables : PropOf K a.f_Change "tables" a.p_Change_tables a.f_Change_tables
  fn_Change_tables : Fun K "tables" "Change.tables" s_Change_tables a.f_Change_tables a.d_Change_tables
  m_Change_cycle : Meth K a.f_Change "cycle" a.f_Change_cycle
  fn_Change_cycle : Fun K "cycle" "Change.cycle" s_Change_cycle a.f_Change_cycle a.d_Change_cycle
  m_ChangeD_strD : Meth K a.f_Change "__str__" a.f_ChangeD_strD
  fn_ChangeD_strD : Fun K "__str__" "Change.__str__" s_ChangeD_strD a.f_ChangeD_strD a.d_ChangeD_strD
  m_ChangeD_eqD : Meth K a.f_Change "__eq__" a.f_ChangeD_eqD
  fn_ChangeD_eqD : Fun K "__eq__" "Change.__eq__" s_ChangeD_eqD a.f_ChangeD_eqD a.d_ChangeD_eqD
  r_Change : ClX.CRead K a.f_Change (.type "type")
  k_Change_MOST : ∃ t, ClX.CVal K a.f_Change (.type "type") "MOST" (.int 8) (.int 8 t)
  o_Change : StX.CallO K a.f_Change a.f_ChangeD_callD
  fn_ChangeD_callD : Fun K "__call__" "Change.__call__" s_ChangeD_callD a.f_ChangeD_callD a.d_ChangeD_callD
  m_Change_read : ClX.CMet K a.f_Change (.type "type") "read" a.p_Change_read a.f_Change_read
  fn_Change_read : Fun K "read" "Change.read" s_Change_read a.f_Change_read a.d_Change_read
  m_Change_setting : SMet K a.f_Change "setting" a.p_Change_setting a.f_Change_setting
  fn_Change_setting : Fun K "setting" "Change.setting" s_Change_setting a.f_Change_setting a.d_Change_setting
  ia_Change : PySem.W.findIn K (.ref a.f_Change) "__class__" = some (some (.builtin "object.__class__"))
  im_Change : PySem.W.mroIn K a.f_Change (.type "object") = some true
  is_Change : PySem.W.kitOne K (.ref a.f_Change) (.ref a.f_Change) = some true
  ii_Change : PySem.W.kitOne K (.type "int") (.ref a.f_Change) = some false
  in_ : PySem.W.specialIn K (.builtin "object.__class__") "__get__" = some (some (.builtin "getset_descriptor.__get__"))
  it_ : PySem.W.takesIn K (.builtin "object.__class__") = some true
  nf_Mode : PySem.W.notFirst K a.f_Mode (.ref a.f_Mode) = true
  mg_BadClause : mg "BadClause" = some (.ref a.x_BadClause)
  mg_SIGNS : mg "SIGNS" = some (.ref a.k_SIGNS)
  t_SIGNS : ∀ H, SqT K H a.k_SIGNS [.str "+", .str "-", .str "="]
  mg_PATTERNS : mg "PATTERNS" = some (.ref a.k_PATTERNS)
  t_PATTERNS : ∀ H, SqT K H a.k_PATTERNS ([0, 1, 2, 3, 4, 5, 6, 7].map V.int)
  mg_NINE_BITS : mg "NINE_BITS" = some (.ref a.k_NINE_BITS)
  t_NINE_BITS : ∀ H, SqT K H a.k_NINE_BITS ([256, 128, 64, 32, 16, 8, 4, 2, 1].map V.int)
  mg_NINE_SIGNS : ∃ t, mg "NINE_SIGNS" = some (.str "rwxrwxrwx" t)
  mg_PARTS : mg "PARTS" = some (.ref a.k_PARTS)
  t_PARTS : ∀ H, ∃ p1 p2 p3 p4 : Addr, SqT K H a.k_PARTS [.ref p1, .ref p2, .ref p3, .ref p4] ∧ SqT K H p1 [.str "r", .str "file"] ∧ SqT K H p2 [.str "w", .str "file"] ∧ SqT K H p3 [.str "x", .str "file"] ∧ SqT K H p4 [.str "x", .str "folder"]
  mg_CLASSES : mg "CLASSES" = some (.ref a.k_CLASSES)
  d_CLASSES : ∃ es n, KDict K w a.k_CLASSES es n ∧ (∃ t, PySem.W.nsIn K a.k_CLASSES "u" = some (some (.int 4 t))) ∧ (∃ t, PySem.W.nsIn K a.k_CLASSES "g" = some (some (.int 2 t))) ∧ (∃ t, PySem.W.nsIn K a.k_CLASSES "o" = some (some (.int 1 t))) ∧ ∀ z ∈ whats, PySem.W.nsIn K a.k_CLASSES z = some none
  mg_WEIGHTS : mg "WEIGHTS" = some (.ref a.k_WEIGHTS)
  d_WEIGHTS : ∃ es n, KDict K w a.k_WEIGHTS es n ∧ (∃ t, PySem.W.nsIn K a.k_WEIGHTS "r" = some (some (.int 4 t))) ∧ (∃ t, PySem.W.nsIn K a.k_WEIGHTS "w" = some (some (.int 2 t))) ∧ (∃ t, PySem.W.nsIn K a.k_WEIGHTS "x" = some (some (.int 1 t)))
theorem bd_is_whole {w : World} {K : PySem.W.Frag} {mg : Str → Option Value} {a : Ads} (T : Txt w K mg a) : Binds K a.d_is_whole ["value"] [] := T.fn_is_whole.binds (ps := ["value"]) fun _ _ _ _ _ _ us hl => match us, hl with | [_], _ => rfl
theorem bd_is_whole_to {w : World} {K : PySem.W.Frag} {mg : Str → Option Value} {a : Ads} (T : Txt w K mg a) : Binds K a.d_is_whole_to ["value", "most"] [] := T.fn_is_whole_to.binds (ps := ["value", "most"]) fun _ _ _ _ _ _ us hl => match us, hl with | [_, _], _ => rfl
theorem bd_is_choice {w : World} {K : PySem.W.Frag} {mg : Str → Option Value} {a : Ads} (T : Txt w K mg a) : Binds K a.d_is_choice ["value", "letters"] [] := T.fn_is_choice.binds (ps := ["value", "letters"]) fun _ _ _ _ _ _ us hl => match us, hl with | [_, _], _ => rfl
theorem bd_pattern_in {w : World} {K : PySem.W.Frag} {mg : Str → Option Value} {a : Ads} (T : Txt w K mg a) : Binds K a.d_pattern_in ["number", "weight"] [] := T.fn_pattern_in.binds (ps := ["number", "weight"]) fun _ _ _ _ _ _ us hl => match us, hl with | [_, _], _ => rfl
theorem bd_bits_of {w : World} {K : PySem.W.Frag} {mg : Str → Option Value} {a : Ads} (T : Txt w K mg a) : Binds K a.d_bits_of ["pattern", "weight"] [] := T.fn_bits_of.binds (ps := ["pattern", "weight"]) fun _ _ _ _ _ _ us hl => match us, hl with | [_, _], _ => rfl
theorem bd_number_of {w : World} {K : PySem.W.Frag} {mg : Str → Option Value} {a : Ads} (T : Txt w K mg a) : Binds K a.d_number_of ["mode"] [] := T.fn_number_of.binds (ps := ["mode"]) fun _ _ _ _ _ _ us hl => match us, hl with | [_], _ => rfl
theorem bd_is_meant {w : World} {K : PySem.W.Frag} {mg : Str → Option Value} {a : Ads} (T : Txt w K mg a) : Binds K a.d_is_meant ["what", "letter", "pattern", "form"] [] := T.fn_is_meant.binds (ps := ["what", "letter", "pattern", "form"]) fun _ _ _ _ _ _ us hl => match us, hl with | [_, _, _, _], _ => rfl
theorem bd_pattern_behind {w : World} {K : PySem.W.Frag} {mg : Str → Option Value} {a : Ads} (T : Txt w K mg a) : Binds K a.d_pattern_behind ["mask", "sign", "meant", "pattern"] [] := T.fn_pattern_behind.binds (ps := ["mask", "sign", "meant", "pattern"]) fun _ _ _ _ _ _ us hl => match us, hl with | [_, _, _, _], _ => rfl
theorem bd_part_of {w : World} {K : PySem.W.Frag} {mg : Str → Option Value} {a : Ads} (T : Txt w K mg a) : Binds K a.d_part_of ["who", "sign", "what", "letter", "form"] [] := T.fn_part_of.binds (ps := ["who", "sign", "what", "letter", "form"]) fun _ _ _ _ _ _ us hl => match us, hl with | [_, _, _, _, _], _ => rfl
theorem bd_parts_for {w : World} {K : PySem.W.Frag} {mg : Str → Option Value} {a : Ads} (T : Txt w K mg a) : Binds K a.d_parts_for ["tables", "form"] [] := T.fn_parts_for.binds (ps := ["tables", "form"]) fun _ _ _ _ _ _ us hl => match us, hl with | [_, _], _ => rfl
theorem bd_number_behind {w : World} {K : PySem.W.Frag} {mg : Str → Option Value} {a : Ads} (T : Txt w K mg a) : Binds K a.d_number_behind ["tables", "number", "form"] [] := T.fn_number_behind.binds (ps := ["tables", "number", "form"]) fun _ _ _ _ _ _ us hl => match us, hl with | [_, _, _], _ => rfl
theorem bd__law_pen {w : World} {K : PySem.W.Frag} {mg : Str → Option Value} {a : Ads} (T : Txt w K mg a) : Binds K a.d__law_pen ["_law_script"] [] := T.fn__law_pen.binds (ps := ["_law_script"]) fun _ _ _ _ _ _ us hl => match us, hl with | [_], _ => rfl
theorem bd__law_draw {w : World} {K : PySem.W.Frag} {mg : Str → Option Value} {a : Ads} (T : Txt w K mg a) : Binds K a.d__law_draw ["_law_pen_here", "_law_many"] [] := T.fn__law_draw.binds (ps := ["_law_pen_here", "_law_many"]) fun _ _ _ _ _ _ us hl => match us, hl with | [_, _], _ => rfl
theorem bd__law_pick {w : World} {K : PySem.W.Frag} {mg : Str → Option Value} {a : Ads} (T : Txt w K mg a) : Binds K a.d__law_pick ["_law_pen_here", "_law_some"] [] := T.fn__law_pick.binds (ps := ["_law_pen_here", "_law_some"]) fun _ _ _ _ _ _ us hl => match us, hl with | [_, _], _ => rfl
theorem bd__law_clause {w : World} {K : PySem.W.Frag} {mg : Str → Option Value} {a : Ads} (T : Txt w K mg a) : Binds K a.d__law_clause ["_law_pen_here"] [] := T.fn__law_clause.binds (ps := ["_law_pen_here"]) fun _ _ _ _ _ _ us hl => match us, hl with | [_], _ => rfl
theorem bd__law_clause_done {w : World} {K : PySem.W.Frag} {mg : Str → Option Value} {a : Ads} (T : Txt w K mg a) : Binds K a.d__law_clause_done ["_law_told", "_law_number", "_law_form_so"] [] := T.fn__law_clause_done.binds (ps := ["_law_told", "_law_number", "_law_form_so"]) fun _ _ _ _ _ _ us hl => match us, hl with | [_, _, _], _ => rfl
theorem bd__law_mode {w : World} {K : PySem.W.Frag} {mg : Str → Option Value} {a : Ads} (T : Txt w K mg a) : Binds K a.d__law_mode ["_law_pen_here"] [] := T.fn__law_mode.binds (ps := ["_law_pen_here"]) fun _ _ _ _ _ _ us hl => match us, hl with | [_], _ => rfl
theorem bd_law {w : World} {K : PySem.W.Frag} {mg : Str → Option Value} {a : Ads} (T : Txt w K mg a) : Binds K a.d_law ["_law_script"] [] := T.fn_law.binds (ps := ["_law_script"]) fun _ _ _ _ _ _ us hl => match us, hl with | [_], _ => rfl
theorem bd_in_turn {w : World} {K : PySem.W.Frag} {mg : Str → Option Value} {a : Ads} (T : Txt w K mg a) : Binds K a.d_in_turn ["one", "other"] [] := T.fn_in_turn.binds (ps := ["one", "other"]) fun _ _ _ _ _ _ us hl => match us, hl with | [_, _], _ => rfl
theorem bd_tables_of {w : World} {K : PySem.W.Frag} {mg : Str → Option Value} {a : Ads} (T : Txt w K mg a) : Binds K a.d_tables_of ["clauses"] [] := T.fn_tables_of.binds (ps := ["clauses"]) fun _ _ _ _ _ _ us hl => match us, hl with | [_], _ => rfl
theorem bd_letters_of {w : World} {K : PySem.W.Frag} {mg : Str → Option Value} {a : Ads} (T : Txt w K mg a) : Binds K a.d_letters_of ["digit"] [] := T.fn_letters_of.binds (ps := ["digit"]) fun _ _ _ _ _ _ us hl => match us, hl with | [_], _ => rfl
theorem bd__law_text {w : World} {K : PySem.W.Frag} {mg : Str → Option Value} {a : Ads} (T : Txt w K mg a) : Binds K a.d__law_text ["_law_told"] [] := T.fn__law_text.binds (ps := ["_law_told"]) fun _ _ _ _ _ _ us hl => match us, hl with | [_], _ => rfl
theorem bd__law_change {w : World} {K : PySem.W.Frag} {mg : Str → Option Value} {a : Ads} (T : Txt w K mg a) : Binds K a.d__law_change ["_law_pen_here", "_law_most"] [] := T.fn__law_change.binds (ps := ["_law_pen_here", "_law_most"]) fun _ _ _ _ _ _ us hl => match us, hl with | [_, _], _ => rfl
theorem bd__law_change_text {w : World} {K : PySem.W.Frag} {mg : Str → Option Value} {a : Ads} (T : Txt w K mg a) : Binds K a.d__law_change_text ["_law_change_here"] [] := T.fn__law_change_text.binds (ps := ["_law_change_here"]) fun _ _ _ _ _ _ us hl => match us, hl with | [_], _ => rfl
theorem bd__law_change_done {w : World} {K : PySem.W.Frag} {mg : Str → Option Value} {a : Ads} (T : Txt w K mg a) : Binds K a.d__law_change_done ["_law_change_here", "_law_number", "_law_form_so"] [] := T.fn__law_change_done.binds (ps := ["_law_change_here", "_law_number", "_law_form_so"]) fun _ _ _ _ _ _ us hl => match us, hl with | [_, _, _], _ => rfl
theorem bd__law_cycle {w : World} {K : PySem.W.Frag} {mg : Str → Option Value} {a : Ads} (T : Txt w K mg a) : Binds K a.d__law_cycle ["_law_change_here", "_law_form_so"] [] := T.fn__law_cycle.binds (ps := ["_law_change_here", "_law_form_so"]) fun _ _ _ _ _ _ us hl => match us, hl with | [_, _], _ => rfl
theorem bd__law_times {w : World} {K : PySem.W.Frag} {mg : Str → Option Value} {a : Ads} (T : Txt w K mg a) : Binds K a.d__law_times ["_law_change_here", "_law_number", "_law_form_so", "_law_many"] [] := T.fn__law_times.binds (ps := ["_law_change_here", "_law_number", "_law_form_so", "_law_many"]) fun _ _ _ _ _ _ us hl => match us, hl with | [_, _, _, _], _ => rfl
theorem bd__law_letters {w : World} {K : PySem.W.Frag} {mg : Str → Option Value} {a : Ads} (T : Txt w K mg a) : Binds K a.d__law_letters ["_law_digit"] [] := T.fn__law_letters.binds (ps := ["_law_digit"]) fun _ _ _ _ _ _ us hl => match us, hl with | [_], _ => rfl
theorem bd_ModeD_initD {w : World} {K : PySem.W.Frag} {mg : Str → Option Value} {a : Ads} (T : Txt w K mg a) : Binds K a.d_ModeD_initD ["self", "number"] [] := T.fn_ModeD_initD.binds (ps := ["self", "number"]) fun _ _ _ _ _ _ us hl => match us, hl with | [_, _], _ => rfl
theorem bd_Mode_number {w : World} {K : PySem.W.Frag} {mg : Str → Option Value} {a : Ads} (T : Txt w K mg a) : Binds K a.d_Mode_number ["self"] [] := T.fn_Mode_number.binds (ps := ["self"]) fun _ _ _ _ _ _ us hl => match us, hl with | [_], _ => rfl
theorem bd_Mode_digits {w : World} {K : PySem.W.Frag} {mg : Str → Option Value} {a : Ads} (T : Txt w K mg a) : Binds K a.d_Mode_digits ["self"] [] := T.fn_Mode_digits.binds (ps := ["self"]) fun _ _ _ _ _ _ us hl => match us, hl with | [_], _ => rfl
theorem bd_ModeD_strD {w : World} {K : PySem.W.Frag} {mg : Str → Option Value} {a : Ads} (T : Txt w K mg a) : Binds K a.d_ModeD_strD ["self"] [] := T.fn_ModeD_strD.binds (ps := ["self"]) fun _ _ _ _ _ _ us hl => match us, hl with | [_], _ => rfl
theorem bd_ModeD_eqD {w : World} {K : PySem.W.Frag} {mg : Str → Option Value} {a : Ads} (T : Txt w K mg a) : Binds K a.d_ModeD_eqD ["self", "other"] [] := T.fn_ModeD_eqD.binds (ps := ["self", "other"]) fun _ _ _ _ _ _ us hl => match us, hl with | [_, _], _ => rfl
theorem bd_ClauseD_initD {w : World} {K : PySem.W.Frag} {mg : Str → Option Value} {a : Ads} (T : Txt w K mg a) : Binds K a.d_ClauseD_initD ["self", "who", "sign", "what"] [] := T.fn_ClauseD_initD.binds (ps := ["self", "who", "sign", "what"]) fun _ _ _ _ _ _ us hl => match us, hl with | [_, _, _, _], _ => rfl
theorem bd_Clause_who {w : World} {K : PySem.W.Frag} {mg : Str → Option Value} {a : Ads} (T : Txt w K mg a) : Binds K a.d_Clause_who ["self"] [] := T.fn_Clause_who.binds (ps := ["self"]) fun _ _ _ _ _ _ us hl => match us, hl with | [_], _ => rfl
theorem bd_Clause_sign {w : World} {K : PySem.W.Frag} {mg : Str → Option Value} {a : Ads} (T : Txt w K mg a) : Binds K a.d_Clause_sign ["self"] [] := T.fn_Clause_sign.binds (ps := ["self"]) fun _ _ _ _ _ _ us hl => match us, hl with | [_], _ => rfl
theorem bd_Clause_what {w : World} {K : PySem.W.Frag} {mg : Str → Option Value} {a : Ads} (T : Txt w K mg a) : Binds K a.d_Clause_what ["self"] [] := T.fn_Clause_what.binds (ps := ["self"]) fun _ _ _ _ _ _ us hl => match us, hl with | [_], _ => rfl
theorem bd_ClauseD_strD {w : World} {K : PySem.W.Frag} {mg : Str → Option Value} {a : Ads} (T : Txt w K mg a) : Binds K a.d_ClauseD_strD ["self"] [] := T.fn_ClauseD_strD.binds (ps := ["self"]) fun _ _ _ _ _ _ us hl => match us, hl with | [_], _ => rfl
theorem bd_ClauseD_eqD {w : World} {K : PySem.W.Frag} {mg : Str → Option Value} {a : Ads} (T : Txt w K mg a) : Binds K a.d_ClauseD_eqD ["self", "other"] [] := T.fn_ClauseD_eqD.binds (ps := ["self", "other"]) fun _ _ _ _ _ _ us hl => match us, hl with | [_, _], _ => rfl
theorem bd_Clause_read {w : World} {K : PySem.W.Frag} {mg : Str → Option Value} {a : Ads} (T : Txt w K mg a) : Binds K a.d_Clause_read ["cls", "text"] [] := T.fn_Clause_read.binds (ps := ["cls", "text"]) fun _ _ _ _ _ _ us hl => match us, hl with | [_, _], _ => rfl
theorem bd_ClauseD_callD {w : World} {K : PySem.W.Frag} {mg : Str → Option Value} {a : Ads} (T : Txt w K mg a) : Binds K a.d_ClauseD_callD ["self", "mode", "form"] [] := T.fn_ClauseD_callD.binds (ps := ["self", "mode", "form"]) fun _ _ _ _ _ _ us hl => match us, hl with | [_, _, _], _ => rfl
theorem bd_Change_clauses {w : World} {K : PySem.W.Frag} {mg : Str → Option Value} {a : Ads} (T : Txt w K mg a) : Binds K a.d_Change_clauses ["self"] [] := T.fn_Change_clauses.binds (ps := ["self"]) fun _ _ _ _ _ _ us hl => match us, hl with | [_], _ => rfl
theorem bd_Change_tables {w : World} {K : PySem.W.Frag} {mg : Str → Option Value} {a : Ads} (T : Txt w K mg a) : Binds K a.d_Change_tables ["self"] [] := T.fn_Change_tables.binds (ps := ["self"]) fun _ _ _ _ _ _ us hl => match us, hl with | [_], _ => rfl
theorem bd_Change_cycle {w : World} {K : PySem.W.Frag} {mg : Str → Option Value} {a : Ads} (T : Txt w K mg a) : Binds K a.d_Change_cycle ["self", "form"] [] := T.fn_Change_cycle.binds (ps := ["self", "form"]) fun _ _ _ _ _ _ us hl => match us, hl with | [_, _], _ => rfl
theorem bd_ChangeD_strD {w : World} {K : PySem.W.Frag} {mg : Str → Option Value} {a : Ads} (T : Txt w K mg a) : Binds K a.d_ChangeD_strD ["self"] [] := T.fn_ChangeD_strD.binds (ps := ["self"]) fun _ _ _ _ _ _ us hl => match us, hl with | [_], _ => rfl
theorem bd_ChangeD_eqD {w : World} {K : PySem.W.Frag} {mg : Str → Option Value} {a : Ads} (T : Txt w K mg a) : Binds K a.d_ChangeD_eqD ["self", "other"] [] := T.fn_ChangeD_eqD.binds (ps := ["self", "other"]) fun _ _ _ _ _ _ us hl => match us, hl with | [_, _], _ => rfl
theorem bd_Change_read {w : World} {K : PySem.W.Frag} {mg : Str → Option Value} {a : Ads} (T : Txt w K mg a) : Binds K a.d_Change_read ["cls", "text"] [] := T.fn_Change_read.binds (ps := ["cls", "text"]) fun _ _ _ _ _ _ us hl => match us, hl with | [_, _], _ => rfl
theorem bd_Change_setting {w : World} {K : PySem.W.Frag} {mg : Str → Option Value} {a : Ads} (T : Txt w K mg a) : Binds K a.d_Change_setting ["mode"] [] := T.fn_Change_setting.binds (ps := ["mode"]) fun _ _ _ _ _ _ us hl => match us, hl with | [_], _ => rfl
theorem bd_ChangeD_callD {w : World} {K : PySem.W.Frag} {mg : Str → Option Value} {a : Ads} (T : Txt w K mg a) : Binds K a.d_ChangeD_callD ["self", "mode", "form"] [] := T.fn_ChangeD_callD.binds (ps := ["self", "mode", "form"]) fun _ _ _ _ _ _ us hl => match us, hl with | [_, _, _], _ => rfl
end KX
set_option Elab.async false
set_option linter.all false
set_option maxRecDepth 100000
set_option maxHeartbeats 4000000
namespace KX
open PySem PySem.Spec PyProof.Rows L2 Evl
local macro_rules | `(tactic| walk_at "ev") => `(tactic| repeat' (first | exact ev_c | exact ev_var rfl | exact rv_I0 | refine' rv_I ?_ | refine' rv_eq ?_ | refine' rv_ne ?_ | refine' ev_op ?_ ?_ ?_ | exact ea_nil | refine' ea_cons ?_ ?_ | refine' et_test ?_ | refine' et_B ?_ | refine' et_not ?_ | refine' ev_notV ?_))
/-! what a value evaluates to: further words -/
/-- a new instance -/
def EvI (te : TE) (σ : L2.St) (H : Hp) (C : Addr) (fs : List (Str × V)) : Prop := ∀ H1, Ex H H1 → ∀ Q : VK, (∀ p dx H2, H1 p = none → Ex H1 H2 → H2 p = some (.ins C dx fs) → Q (.ref p) H2) → te σ H1 Q
/-- a tuple, made or old -/
def EvW (K : PySem.W.Frag) (te : TE) (σ : L2.St) (H : Hp) (xs : List V) : Prop := ∀ H1, Ex H H1 → ∀ Q : VK, (∀ p H2, Ex H1 H2 → SqT K H2 p xs → Q (.ref p) H2) → te σ H1 Q
section
variable {σ : L2.St} {K : PySem.W.Frag} {H H' : Hp} {tx te ta tb : TE} {u t : TT} {v x y z : V} {r : R2}
theorem ev_isi {ta : TA} {c : V} {t u : Value} {b : Bool} (ha : EvA ta σ H [x, c]) (k : ClsV c u) (ty : ∀ H', Ex H H' → TyX K H' x t) (e : PySem.W.kitOne K t u = some b) : Ev (tCB (rIsi K) ta) σ H (.bl b) := fun H1 e1 Q q =>
  ha H1 e1 _ fun H2 e2 => ⟨x, c, t, u, b, rfl, k, ty H2 (e1.trans e2), e, q H2 e2⟩
theorem ev_chain {r r' : R2} {tc : TE} {k1 k2 : Bool} {z : V} (ha : Ev ta σ H x) (hb : Ev tb σ H y) (h1 : RV r x y H (.bl k1)) (hc : k1 = true → Ev tc σ H z ∧ RV r' y z H (.bl k2)) : Ev (tChain r r' ta tb tc) σ H (.bl (k1 && k2)) := fun H1 e1 Q q =>
  ha H1 e1 _ fun H2 e2 => hb H2 (e1.trans e2) _ fun H3 e3 => h1 H3 ((e1.trans e2).trans e3) _ fun H4 e4 => ⟨k1, rfl, by
    cases k1 with
    | true =>
      obtain ⟨h3, h4⟩ := hc rfl
      exact h3 H4 (((e1.trans e2).trans e3).trans e4) _ fun H5 e5 => h4 H5 ((((e1.trans e2).trans e3).trans e4).trans e5) _ fun H6 e6 => q H6 ((((e2.trans e3).trans e4).trans e5).trans e6)
    | false => exact q H4 ((e2.trans e3).trans e4)⟩
theorem ev_cval {ta : TE} {C : Addr} {mc : Value} {f : Str} {u : Value} (h : Ev ta σ H (.ref C)) (r : ClX.CRead K C mc) (k : ClX.CVal K C mc f v u) : Ev (ClX.tCVal K ta f) σ H v := fun H1 e Q q => h H1 e _ fun H2 e2 => ⟨C, mc, v, u, rfl, r, k, q H2 e2⟩
theorem ev_prop {C a : Addr} {dx : Addr} {fs : List (Str × V)} {sp : Sp} {E : XK} (h : Ev ta σ H (.ref a)) (ho : H a = some (.ins C dx fs)) (hs : SpV sp [.ref a] H v) : Ev (tProp C sp [] E ta) σ H v := fun H1 e Q q =>
  h H1 e _ fun H2 e2 => ⟨a, dx, fs, rfl, e2 _ _ (e _ _ ho), hs H2 (e.trans e2) Q (fun H3 e3 => q H3 (e2.trans e3)) E⟩
theorem ev_fld {C a : Addr} {dx : Addr} {fs : List (Str × V)} {f : Str} (h : Ev ta σ H (.ref a)) (ho : H a = some (.ins C dx fs)) (c : Cls K C) (n : NoAttr K C f) (l : fs.lookup f = some v) : Ev (tFld K ta f) σ H v := fun H1 e Q q =>
  h H1 e _ fun H2 e2 => ⟨a, C, dx, fs, v, rfl, e2 _ _ (e _ _ ho), c, n, l, q H2 e2⟩
theorem spv_get {C a : Addr} {dx : Addr} {fs : List (Str × V)} {f : Str} (ho : H a = some (.ins C dx fs)) (l : fs.lookup f = some v) : SpV (getSp C f) [.ref a] H v := fun H1 e Q q E => ⟨a, dx, fs, v, rfl, e _ _ ho, l, q H1 (Ex.refl _)⟩
end
/-! promises -/
def spTrue1 : Sp := fun vs H Q _ => ∃ i : Int, vs = [.int i] ∧ ∀ H', Ex H H' → Q (.bl true) H'
def spTrue2 : Sp := fun vs H Q _ => ∃ i m : Int, vs = [.int i, .int m] ∧ 0 ≤ i ∧ i ≤ m ∧ ∀ H', Ex H H' → Q (.bl true) H'
/-- a Mode of number n stands at p -/
def ModeAt (a : Ads) (H : Hp) (p : Addr) (n : Nat) : Prop := ∃ dx, H p = some (.ins a.f_Mode dx [(("_number" : Str), .int n)])
theorem ModeAt.mono {a : Ads} {H H' : Hp} {p : Addr} {n : Nat} (m : ModeAt a H p n) (e : Ex H H') : ModeAt a H' p n := by
  obtain ⟨dx, h⟩ := m
  exact ⟨dx, e _ _ h⟩
def spMode (a : Ads) : Sp := fun vs H Q _ => ∃ (p dx : Addr) (n : Nat), vs = [.ref p, .int n] ∧ n < 512 ∧ H p = some (.ins a.f_Mode dx []) ∧ ∀ H', (∀ b o, H b = some o → b ≠ p → H' b = some o) → H' p = some (.ins a.f_Mode dx [(("_number" : Str), .int n)]) → Q .non H'
def spNum (a : Ads) : Sp := fun vs H Q _ => ∃ (v : V) (n : Nat), vs = [v] ∧ n < 512 ∧ (v = .int n ∨ ∃ p, v = .ref p ∧ ModeAt a H p n) ∧ ∀ H', Ex H H' → Q (.int n) H'
section
variable {P : Program} {w : World} {K : PySem.W.Frag} {mg : Str → Option Value} {base : Heap} {a : Ads}
theorem ok_is_whole (T : Txt w K mg a) : FnOk P w K mg base CX0 1 a.f_is_whole a.d_is_whole ["value"] spTrue1 := by
  refine T.fn_is_whole.ok sc_is_whole (fun vs H Q E h => ?_) (fun cdv A outer s H vs Q E hr h => ?_)
  · obtain ⟨_, rfl, _⟩ := h
    rfl
  · obtain ⟨i, rfl, k⟩ := h
    refine ⟨_, (pss_one (ps_ret (pe_and (pe_callB call_isi (by rfl) T.b_isinstance PyProof.Rows.boot_isinstance (pa_cons (pv 0) (pa_cons (pe_bltn (v := .ty "int") (by rfl) T.b_int (by decide +kernel) rfl) pa_nil))) (pe_one (pe_not (pe_callB call_isi (by rfl) T.b_isinstance PyProof.Rows.boot_isinstance (pa_cons (pv 0) (pa_cons (pe_bltn (v := .ty "bool") (by rfl) T.b_bool (by decide +kernel) rfl) pa_nil)))))))), ?_⟩
    refine s_ret (v := .bl true) (ev_andV (a := true) (ev_isi (by walk_at "ev") (.ty _) (fun _ _ => .base (.int i)) (kit_ty (by decide +kernel))) fun _ => ev_notV (a := false) (ev_isi (by walk_at "ev") (.ty _) (fun _ _ => .base (.int i)) (kit_ty (by decide +kernel)))) fun H1 e1 => ?_
    exact k H1 e1
theorem ok_is_whole_to (T : Txt w K mg a) : FnOk P w K mg base CX0 3 a.f_is_whole_to a.d_is_whole_to ["value", "most"] spTrue2 := by
  have G_is_whole : FnOk P w K mg base CX0 1 _ _ _ _ := ok_is_whole T
  refine T.fn_is_whole_to.ok sc_is_whole_to (fun vs H Q E h => ?_) (fun cdv A outer s H vs Q E hr h => ?_)
  · obtain ⟨_, _, rfl, _⟩ := h
    rfl
  · obtain ⟨i, m, rfl, h0, h1, k⟩ := h
    have hrc : Room 1 _ := hr.mono (by decide)
    refine ⟨_, (pss_one (ps_ret (pe_and (pe_call G_is_whole hrc rfl T.mg_is_whole T.fn_is_whole.kp (bd_is_whole T) .nil pass0 (pa_cons (pv 0) pa_nil)) (pe_one (pe_chain op_le op_le pe_int (pv 0) (pv 1)))))), ?_⟩
    refine s_ret (v := .bl true) (ev_is (ev_andV (a := true) (ev_call (vs := [.int i]) (by walk_at "ev") fun H1 e Q q E => ⟨i, rfl, q⟩) fun _ => ev_chain (by walk_at "ev") (by walk_at "ev") (by walk_at "ev") fun _ => ⟨by walk_at "ev", by walk_at "ev"⟩) ?_) fun H1 e1 => ?_
    · rw [decide_eq_true h0, decide_eq_true h1] <;> rfl
    exact k H1 e1
theorem ok_Mode_init (T : Txt w K mg a) : FnOk P w K mg base CX0 5 a.f_ModeD_initD a.d_ModeD_initD ["self", "number"] (spMode a) := by
  have G_is_whole_to : FnOk P w K mg base CX0 3 _ _ _ _ := ok_is_whole_to T
  refine T.fn_ModeD_initD.ok sc_ModeD_initD (fun vs H Q E h => ?_) (fun cdv A outer s H vs Q E hr h => ?_)
  · obtain ⟨_, _, _, rfl, _⟩ := h
    rfl
  · obtain ⟨p, dx, n, rfl, hn, hp, k⟩ := h
    have hrc : Room 3 _ := hr.mono (by decide)
    obtain ⟨tm, hm⟩ := T.k_Mode_MOST
    refine ⟨_, (pss_cons (ps_if (pt_not (pt_val (pe_call G_is_whole_to hrc rfl T.mg_is_whole_to T.fn_is_whole_to.kp (bd_is_whole_to T) .nil pass0 (pa_cons (pv 1) (pa_cons (ClX.pe_cval (pe_glob (v := .ref a.f_Mode) rfl T.mg_Mode rfl)) pa_nil))))) (pss_one ps_never) pss_nil)
    (pss_one (ps_fld (pv 0) (pv 1) rfl))), ?_⟩
    refine q_when (b := false) (et_not (a := true) (et_B (ev_call (vs := [.int n, .int 511]) (ea_cons (ev_var rfl) (ea_cons (ev_cval ev_c T.r_Mode hm) ea_nil)) fun H1 e Q q E => ⟨n, 511, rfl, by omega, by omega, q⟩))) (fun z => nomatch z) fun _ H1 e1 => ?_
    refine ⟨_, rfl, _, rfl, p, a.f_Mode, dx, [], rfl, e1 _ _ hp, T.c_Mode, T.n_number_Mode, (by show 0 < 1000; decide), ?_⟩
    exact k _ (fun b o hb ne => by rw [upd_ne ne]; exact e1 _ _ hb) upd_same
theorem ok_Mode_number (T : Txt w K mg a) : FnOk P w K mg base CX0 1 a.f_Mode_number a.d_Mode_number ["self"] (getSp a.f_Mode "_number") := by
  obtain ⟨oc, od, kV, doc, pm, an, cdv, ct, osl, e, lk, hcd⟩ := T.fn_Mode_number.ex
  rw [e]
  exact fn_getter (by rw [← e]; exact lk) hcd sc_Mode_number rfl rfl T.c_Mode T.n_number_Mode
theorem tyx_mode (T : Txt w K mg a) {H : Hp} {p : Addr} {n : Nat} (m : ModeAt a H p n) : TyX K H (.ref p) (.ref a.f_Mode) := by
  obtain ⟨dx, h⟩ := m
  exact .base (.ins h T.c_Mode T.ia_Mode T.in_ T.it_ T.im_Mode)
theorem ok_number_of (T : Txt w K mg a) : FnOk P w K mg base CX0 5 a.f_number_of a.d_number_of ["mode"] (spNum a) := by
  have G_is_whole_to : FnOk P w K mg base CX0 3 _ _ _ _ := ok_is_whole_to T
  have G_Mode_number : FnOk P w K mg base CX0 3 _ _ _ _ := (ok_Mode_number T).mono (by decide)
  refine T.fn_number_of.ok sc_number_of (fun vs H Q E h => ?_) (fun cdv A outer s H vs Q E hr h => ?_)
  · obtain ⟨_, _, rfl, _⟩ := h
    rfl
  · obtain ⟨v, n, rfl, hn, hv, k⟩ := h
    have hrm : Room 4 _ := hr
    have hrc : Room 3 _ := hr.mono (by decide)
    obtain ⟨tm, hm⟩ := T.k_Mode_MOST
    refine ⟨_, (pss_cons (ps_if (pt_val (pe_callB call_isi (by rfl) T.b_isinstance PyProof.Rows.boot_isinstance (pa_cons (pv 0) (pa_cons (pe_glob (v := .ref a.f_Mode) rfl T.mg_Mode rfl) pa_nil)))) (pss_one (ps_ret (pe_prop (pv 0) T.c_Mode T.p_Mode_number (G_Mode_number) hrm (bd_Mode_number T) .nil pass0 rfl))) pss_nil)
    (pss_cons (ps_if (pt_not (pt_val (pe_call G_is_whole_to hrc rfl T.mg_is_whole_to T.fn_is_whole_to.kp (bd_is_whole_to T) .nil pass0 (pa_cons (pv 0) (pa_cons (ClX.pe_cval (pe_glob (v := .ref a.f_Mode) rfl T.mg_Mode rfl)) pa_nil))))) (pss_one ps_never) pss_nil)
    (pss_one (ps_ret (pv 0))))), ?_⟩
    rcases hv with rfl | ⟨p, rfl, m⟩
    · refine q_when (b := false) (et_B (ev_isi (by walk_at "ev") (.own _) (fun _ _ => .base (.int n)) T.ii_Mode)) (fun z => nomatch z) fun _ H1 e1 => ?_
      refine q_when (b := false) (et_not (a := true) (et_B (ev_call (vs := [.int n, .int 511]) (ea_cons (ev_var rfl) (ea_cons (ev_cval ev_c T.r_Mode hm) ea_nil)) fun H1 e Q q E => ⟨n, 511, rfl, by omega, by omega, q⟩))) (fun z => nomatch z) fun _ H2 e2 => ?_
      exact s_ret (v := .int n) (ev_var rfl) fun H3 e3 => k H3 ((e1.trans e2).trans e3)
    · obtain ⟨dx, hp⟩ := id m
      refine q_when (b := true) (et_B (ev_isi (by walk_at "ev") (.own _) (fun H' e' => tyx_mode T (m.mono e')) T.is_Mode)) (fun _ H1 e1 => ?_) fun z => nomatch z
      refine s_ret (v := .int n) (ev_prop (ev_var rfl) (e1 _ _ hp) (spv_get (e1 _ _ hp) (by simp [List.lookup]))) fun H2 e2 => ?_
      exact k H2 (e1.trans e2)
end
end KX
set_option Elab.async false
set_option linter.all false
set_option maxRecDepth 100000
set_option maxHeartbeats 4000000
namespace KX
open PySem PySem.Spec PyProof.Rows L2 Evl
local macro_rules | `(tactic| walk_at "ev") => `(tactic| repeat' (first | exact ev_c | exact ev_var rfl | exact rv_I0 | refine' rv_I ?_ | refine' rv_eq ?_ | refine' rv_ne ?_ | refine' ev_op ?_ ?_ ?_ | exact ea_nil | refine' ea_cons ?_ ?_ | refine' et_test ?_ | refine' et_B ?_ | refine' et_not ?_ | refine' ev_notV ?_))

section
variable {σ : L2.St} {K : PySem.W.Frag} {H H' : Hp} {tx te ta tb : TE} {u t : TT} {v x y z : V} {r : R2}
/-- a comprehension over the signs of a text -/
theorem el_lcS {s : Str} {tl' : TE} {j : Nat} {vs : List Nat} (f : Nat → Bool) (v : Nat → V) (h : Ev tl' σ H (.str s)) (hz : s.cps.size ≤ 40000) (hw : ∀ x, wipe ((wipe σ vs).set j (some x)) vs = wipe σ vs)
    (ht : ∀ (i : Nat) (c : Nat) H1, Ex H H1 → s.cps[i]? = some c → EvT t ((wipe σ vs).set j (some (.str ⟨#[c]⟩))) H1 (f i)) (he : ∀ (i : Nat) (c : Nat) H1, Ex H H1 → s.cps[i]? = some c → f i = true → Ev te ((wipe σ vs).set j (some (.str ⟨#[c]⟩))) H1 (v i)) :
    EvL (tLc (iStr tl') (gName j) t te vs) σ H (given s.cps.size f v) := fun H0 e Q q => h H0 e _ fun H1 e1 => ⟨s, rfl, fun Dl hD =>
  ⟨fun i m H' => m = s.cps.size - i ∧ i ≤ s.cps.size ∧ Cw H1 f v Dl i H', ⟨s.cps.size, by simp, Nat.zero_le _, hD, Ex.new hD, upd_same⟩, by
    rintro i m H' ⟨rfl, hi, p⟩
    by_cases hlt : i < s.cps.size
    · refine .inr ⟨hlt, Cw H1 f v Dl (i + 1), fun H2 p' => ⟨s.cps.size - (i + 1), by omega, rfl, hlt, p'⟩, ?_⟩
      rintro x H2 ⟨rfl, c, hc, rfl⟩
      exact ⟨hw _, cw_turn p (by omega) (ht i c H1 (e.trans e1) hc) (fun hf => he i c H1 (e.trans e1) hc hf)⟩
    · have e2 : i = s.cps.size := by omega
      subst e2
      exact .inl ⟨Nat.le_refl _, q Dl H' (fresh_back e1 p.1) (e1.trans p.2.1) p.2.2⟩⟩⟩
/-- over a tuple -/
theorem el_lcT {a : Addr} {xs : List V} {tl : TE} {g : TG} {vs : List Nat} {σ' : V → L2.St} (f : Nat → Bool) (v : Nat → V) (h : Ev tl σ H (.ref a)) (hx : SqT K H a xs) (hz : xs.length ≤ 40000)
    (hg : ∀ (i : Nat) (x : V) H1 (Q : L2.St → Hp → Prop), Ex H H1 → xs[i]? = some x → Q (σ' x) H1 → g x (wipe σ vs) H1 Q) (hw : ∀ x, wipe (σ' x) vs = wipe σ vs)
    (ht : ∀ (i : Nat) (x : V) H1, Ex H H1 → xs[i]? = some x → EvT t (σ' x) H1 (f i)) (he : ∀ (i : Nat) (x : V) H1, Ex H H1 → xs[i]? = some x → f i = true → Ev te (σ' x) H1 (v i)) :
    EvL (tLc (iTup K tl) g t te vs) σ H (given xs.length f v) := fun H0 e Q q => h H0 e _ fun H1 e1 => ⟨a, rfl, ⟨xs, ex_t (e.trans e1) hx⟩, fun Dl hD =>
  lc_tup (xs := xs) (Cw H1 f v Dl) ⟨hD, Ex.new hD, upd_same⟩ (fun i H' _ p => ex_t ((e.trans e1).trans p.2.1) hx)
    (fun i x H' hi p => hg i x H' _ ((e.trans e1).trans p.2.1) hi ⟨hw x, cw_turn p (by have := (List.getElem?_eq_some_iff.mp hi).1; omega) (ht i x H1 (e.trans e1) hi) (fun hf => he i x H1 (e.trans e1) hi hf)⟩)
    (fun He cw => q Dl He (fresh_back e1 cw.1) (e1.trans cw.2.1) cw.2.2)⟩
theorem et_yes : EvT tYes σ H true := fun H1 _ _ q => q H1 (Ex.refl H1)
theorem ev_join {s : Str} {ys : List Str} (ha : Ev ta σ H (.str s)) (hb : EvL te σ H (ys.map V.str)) (hz : (ys.map (·.length)).sum + ys.length * s.length ≤ 16777216) :
    Ev (tM1 (fun x xs H Q => ∃ a p, ∃ ys : List Str, x = .str a ∧ xs = [.ref p] ∧ (SqL K H p (ys.map V.str) ∨ SqT K H p (ys.map V.str)) ∧ (ys.map (·.length)).sum + ys.length * a.length ≤ 16777216 ∧ Q (.str (Txt.join a ys)) H) ta te) σ H (.str (Txt.join s ys)) := fun H1 e Q q =>
  ha H1 e _ fun H2 e2 => ⟨⟨s, rfl⟩, hb H2 (e.trans e2) _ fun p H3 _ e3 h3 => ⟨s, p, ys, rfl, rfl, .inl (sq_of h3), hz, q H3 (e2.trans e3)⟩⟩
theorem eu_tuple {xs : List V} (h : EvL te σ H xs) : EvU (tCB (fun xs H Q => ∃ p ys, xs = [.ref p] ∧ ((SqL K H p ys ∧ ∀ l, H l = none → Q (.ref l) (upd H l (.tup ys))) ∨ (SqT K H p ys ∧ Q (.ref p) H))) (tCons te tNil)) σ H xs := fun H1 e Q q =>
  h H1 e _ fun p H2 _ e2 h2 => ⟨p, xs, rfl, .inl ⟨sq_of h2, fun l hl => q l _ (fresh_back e2 hl) (e2.trans (Ex.new hl)) upd_same⟩⟩
theorem ev_sum {ns : List Int} (h : EvL te σ H (ns.map V.int)) : Ev (tCB (rSum K) (tCons te tNil)) σ H (.int ns.sum) := fun H1 e Q q =>
  h H1 e _ fun p H2 _ e2 h2 => ⟨p, ns, rfl, sq_of h2, q H2 e2⟩
theorem el_is {xs ys : List V} (h : EvL te σ H xs) (e : xs = ys) : EvL te σ H ys := e ▸ h
theorem eu_is {xs ys : List V} (h : EvU te σ H xs) (e : xs = ys) : EvU te σ H ys := e ▸ h
theorem rv_inS {c : Nat} {w : Str} : RV (fun x y H Q => ∃ (c : Nat) (z : Str), x = .str ⟨#[c]⟩ ∧ y = .str z ∧ Q (.bl (decide (c ∈ z.cps.toList))) H) (.str ⟨#[c]⟩) (.str w) H (.bl (decide (c ∈ w.cps.toList))) := fun H1 _ _ q => ⟨c, w, rfl, rfl, q H1 (Ex.refl H1)⟩
end
/-- the letters of l that stand in v -/
def chosen (v l : Str) : List Str := (l.cps.toList.filter fun c => decide (c ∈ v.cps.toList)).map fun c => ⟨#[c]⟩
theorem given_signs (l : Str) (p : Nat → Bool) : given l.cps.size (fun i => p (l.cps.toList.getD i 0)) (fun i => V.str ⟨#[l.cps.toList.getD i 0]⟩) = (((l.cps.toList.filter p).map fun c => (⟨#[c]⟩ : Str)).map V.str) := by
  unfold given
  have h : ∀ (xs : List Nat), ((List.range xs.length).filter fun i => p (xs.getD i 0)).map (fun i => V.str ⟨#[xs.getD i 0]⟩) = ((xs.filter p).map fun c => (⟨#[c]⟩ : Str)).map V.str := by
    intro xs
    have e : xs = (List.range xs.length).map fun i => xs.getD i 0 := by
      apply List.ext_getElem
      · simp
      · intro i h1 h2
        simp at h2 ⊢
        simp [h1]
    conv => rhs; rw [e]
    rw [List.filter_map, List.map_map, List.map_map]
    rfl
  have := h l.cps.toList
  rw [Array.length_toList] at this
  exact this
theorem ones_sum : ∀ xs : List Nat, ((xs.map fun c => (⟨#[c]⟩ : Str)).map (·.length)).sum = xs.length
  | [] => rfl
  | x :: xs => by
    have := ones_sum xs
    simp only [List.map_cons, List.sum_cons, List.length_cons, this]
    show 1 + xs.length = xs.length + 1
    omega
theorem chosen_small {v l : Str} (h : l.cps.size ≤ 20) : ((chosen v l).map (·.length)).sum + (chosen v l).length * (Str.length "") ≤ 16777216 := by
  have e : Str.length "" = 0 := by decide +kernel
  have h1 : (l.cps.toList.filter fun c => decide (c ∈ v.cps.toList)).length ≤ l.cps.toList.length := List.length_filter_le ..
  have e2 : l.cps.toList.length = l.cps.size := by simp
  rw [e, Nat.mul_zero]
  unfold chosen
  rw [ones_sum]
  omega
def spChoice : Sp := fun vs H Q _ => ∃ v l : Str, vs = [.str v, .str l] ∧ l.cps.size ≤ 20 ∧ ∀ H', Ex H H' → Q (.bl (decide (V.str v = V.str (Txt.join "" (chosen v l))))) H'
section
variable {P : Program} {w : World} {K : PySem.W.Frag} {mg : Str → Option Value} {base : Heap} {a : Ads}
theorem ok_is_choice (T : Txt w K mg a) : FnOk P w K mg base CX0 1 a.f_is_choice a.d_is_choice ["value", "letters"] spChoice := by
  refine T.fn_is_choice.ok sc_is_choice (fun vs H Q E h => ?_) (fun cdv A outer s H vs Q E hr h => ?_)
  · obtain ⟨_, _, rfl, _⟩ := h
    rfl
  · obtain ⟨v, l, rfl, hl, k⟩ := h
    refine ⟨_, (pss_cons (ps_if (pt_not (pt_val (pe_callB call_isi (by rfl) T.b_isinstance PyProof.Rows.boot_isinstance (pa_cons (pv 0) (pa_cons (pe_bltn (v := .ty "str") (by rfl) T.b_str (by decide +kernel) rfl) pa_nil))))) (pss_one (ps_ret pe_bl)) pss_nil)
    (pss_one (ps_ret (pe_cmpR op_eq (pv 0) (pe_join pe_str (pe_lc (own := [("letter", 2)]) (g := gName 2) rfl sc_is_choice.nd (pi_str (pv 1)) (blkOk_by (own := [("letter", 2)]) (N := n_is_choice) (sc := defScope s_is_choice) (by decide +kernel)) (fun _ _ _ _ _ => (pg_name (i := 2) sc_is_choice.nd rfl (Or.inl rfl))) (fun _ _ _ _ _ => (pts_one (pt_cmpR op_in_sign (pv 2) (pv 0) (by rfl)))) (fun _ _ _ _ _ => (pv 2)))) (nomark _))))), ?_⟩
    refine q_when (b := false) (et_not (a := true) (et_B (ev_isi (by walk_at "ev") (.ty _) (fun _ _ => .base (.str v)) (kit_ty (by decide +kernel))))) (fun z => nomatch z) fun _ H1 e1 => ?_
    have hL := el_lcS (σ := L2.start n_is_choice [.str v, .str l]) (H := H1) (s := l) (tl' := tVar 1) (j := 2) (vs := [2]) (t := tTest (tOp (fun x y H Q => ∃ (c : Nat) (z : Str), x = .str ⟨#[c]⟩ ∧ y = .str z ∧ Q (.bl (decide (c ∈ z.cps.toList))) H) (tVar 2) (tVar 0))) (te := tVar 2) (fun i => decide (l.cps.toList.getD i 0 ∈ v.cps.toList)) (fun i => V.str ⟨#[l.cps.toList.getD i 0]⟩) (ev_var rfl) (by omega) (fun _ => rfl)
      (fun i c H2 e2 hc => et_test (ev_is (ev_op (ev_var rfl) (ev_var rfl) rv_inS) (by rw [← Array.getElem?_toList] at hc; simp [List.getD, hc])))
      (fun i c H2 e2 hc _ => ev_is (ev_var rfl) (by rw [← Array.getElem?_toList] at hc; simp [List.getD, hc]))
    rw [given_signs l fun c => decide (c ∈ v.cps.toList)] at hL
    refine s_ret (v := .bl (decide (V.str v = V.str (Txt.join "" (chosen v l))))) (ev_op (ev_var rfl) (ev_join (s := "") ev_c hL ?_) (rv_eq rfl)) fun H2 e2 => k H2 (e1.trans e2)
    exact chosen_small hl
end
end KX
set_option Elab.async false
set_option linter.all false
set_option maxRecDepth 100000
set_option maxHeartbeats 4000000
namespace KX
open PySem PySem.Spec PyProof.Rows L2 Evl
local macro_rules | `(tactic| walk_at "ev") => `(tactic| repeat' (first | exact ev_c | exact ev_var rfl | exact rv_I0 | refine' rv_I ?_ | refine' rv_eq ?_ | refine' rv_ne ?_ | refine' ev_op ?_ ?_ ?_ | exact ea_nil | refine' ea_cons ?_ ?_ | refine' et_test ?_ | refine' et_B ?_ | refine' et_not ?_ | refine' ev_notV ?_))

abbrev sg (c : Nat) : Str := ⟨#[c]⟩
def allw : List Str := "u" :: "g" :: "o" :: whats
def forms : List Str := ["file", "folder"]
def meantB (what : Str) (c p : Nat) (form : Str) : Bool :=
  if what = "u" then !decide (V.int (Builtin.bitAnd p 4) = V.int 0) else if what = "g" then !decide (V.int (Builtin.bitAnd p 2) = V.int 0) else if what = "o" then !decide (V.int (Builtin.bitAnd p 1) = V.int 0) else
  if c ∈ what.cps.toList then true else (decide (V.str (sg c) = V.str "x") && (decide (88 ∈ what.cps.toList) && (decide (V.str form = V.str "folder") || !decide (V.int p = V.int 0))))
def spMeant : Sp := fun vs H Q _ => ∃ (what form : Str) (c p : Nat), vs = [.str what, .str (sg c), .int p, .str form] ∧ what ∈ allw ∧ ∀ H', Ex H H' → Q (.bl (meantB what c p form)) H'
theorem rv_kd {K : PySem.W.Frag} {d : Addr} {z : Str} {r : Option Value} {H : Hp} (h : PySem.W.nsIn K d z = some r) : RV (fun x y H Q => ∃ (z : Str) (r : Option Value), x = .str z ∧ y = .ref d ∧ PySem.W.nsIn K d z = some r ∧ Q (.bl r.isSome) H) (.str z) (.ref d) H (.bl r.isSome) := fun H1 _ _ q => ⟨z, r, rfl, rfl, h, q H1 (Ex.refl H1)⟩
theorem rv_kix {K : PySem.W.Frag} {w : World} {d : Addr} {es : Array DictEntry} {n : Nat} {z : Str} {u : Value} {v : V} {H : Hp} (D : KDict K w d es n) (h : PySem.W.nsIn K d z = some (some u)) (r : RelV v u) : RV (rIxD K w) (.ref d) (.str z) H v := fun H1 _ _ q => ⟨d, z, v, rfl, rfl, ⟨es, n, u, D.at_, D.lit, h, r⟩, q H1 (Ex.refl H1)⟩
theorem not_u : ("u" : Str) ∉ whats ∧ ("g" : Str) ∉ whats ∧ ("o" : Str) ∉ whats ∧ ("g" : Str) ≠ "u" ∧ ("o" : Str) ≠ "u" ∧ ("o" : Str) ≠ "g" := by decide +kernel
theorem X_is : ("X" : Str) = ⟨#[88]⟩ := by decide +kernel
section
variable {P : Program} {w : World} {K : PySem.W.Frag} {mg : Str → Option Value} {base : Heap} {a : Ads}
theorem ok_is_meant (T : Txt w K mg a) : FnOk P w K mg base CX0 1 a.f_is_meant a.d_is_meant ["what", "letter", "pattern", "form"] spMeant := by
  obtain ⟨es, n, D, ⟨t4, hu⟩, ⟨t2, hg⟩, ⟨t1, ho⟩, hno⟩ := T.d_CLASSES
  refine T.fn_is_meant.ok sc_is_meant (fun vs H Q E h => ?_) (fun cdv A outer s H vs Q E hr h => ?_)
  · obtain ⟨_, _, _, _, rfl, _⟩ := h
    rfl
  · obtain ⟨what, form, c, p, rfl, hw, k⟩ := h
    refine ⟨_, (pss_cons (ps_if (pt_cmpR (op_in_kd D) (pv 0) (pe_glob (v := .ref a.k_CLASSES) rfl T.mg_CLASSES rfl) (by rfl)) (pss_one (ps_ret (pe_cmpR op_ne (pe_op op_and (pv 2) (pe_ix ix_kdict (pe_glob (v := .ref a.k_CLASSES) rfl T.mg_CLASSES rfl) (pv 0) (fun _ _ => rfl))) pe_int (nomark _)))) pss_nil)
    (pss_cons (ps_if (pt_cmpR op_in_sign (pv 1) (pv 0) (by rfl)) (pss_one (ps_ret pe_bl)) pss_nil)
    (pss_one (ps_ret (pe_and (pe_cmpR op_eq (pv 1) pe_str (nomark _)) (pe_and (pe_cmpR op_in_sign pe_str (pv 0) (by rfl)) (pe_one (pe_or (pe_cmpR op_eq (pv 3) pe_str (nomark _)) (pe_one (pe_cmpR op_ne (pv 2) pe_int (nomark _))))))))))), ?_⟩
    have cl3 : (∃ (b : Nat) (t : Tok), PySem.W.nsIn K a.k_CLASSES what = some (some (.int b t)) ∧ meantB what c p form = !decide (V.int (Builtin.bitAnd p b) = V.int 0)) ∨ what ∈ whats := by
      rcases List.mem_cons.mp hw with rfl | hw
      · exact .inl ⟨4, t4, hu, by unfold meantB; rw [if_pos rfl]; rfl⟩
      rcases List.mem_cons.mp hw with rfl | hw
      · exact .inl ⟨2, t2, hg, by unfold meantB; rw [if_neg not_u.2.2.2.1, if_pos rfl]; rfl⟩
      rcases List.mem_cons.mp hw with rfl | hw
      · exact .inl ⟨1, t1, ho, by unfold meantB; rw [if_neg not_u.2.2.2.2.1, if_neg not_u.2.2.2.2.2, if_pos rfl]; rfl⟩
      exact .inr hw
    rcases cl3 with ⟨b, t, hn, e⟩ | hw
    · refine q_when (b := true) (et_test (ev_op (ev_var rfl) ev_c (rv_kd hn))) (fun _ H1 e1 => ?_) (fun z => nomatch z)
      exact s_ret (v := .bl (meantB what c p form)) (ev_is (ev_op (ev_op (ev_var rfl) (ev_op ev_c (ev_var rfl) (rv_kix (v := .int b) D hn ⟨_, rfl⟩)) rv_I0) ev_c (rv_ne rfl)) (by rw [e])) fun H2 e2 => k H2 (e1.trans e2)
    have e0 : meantB what c p form = if c ∈ what.cps.toList then true else (decide (V.str (sg c) = V.str "x") && (decide (88 ∈ what.cps.toList) && (decide (V.str form = V.str "folder") || !decide (V.int p = V.int 0)))) := by
      unfold meantB
      rw [if_neg (fun z => not_u.1 (by rw [← z]; exact hw)), if_neg (fun z => not_u.2.1 (by rw [← z]; exact hw)), if_neg (fun z => not_u.2.2.1 (by rw [← z]; exact hw))]
    refine q_when (b := false) (et_test (ev_op (ev_var rfl) ev_c (rv_kd (hno what hw)))) (fun z => nomatch z) fun _ H1 e1 => ?_
    refine q_when (b := decide (c ∈ what.cps.toList)) (et_test (ev_op (ev_var rfl) (ev_var rfl) rv_inS)) (fun hb H2 e2 => ?_) fun hb H2 e2 => ?_
    · rw [if_pos (of_decide_eq_true hb)] at e0
      exact s_ret (v := .bl (meantB what c p form)) (ev_is ev_c (by rw [e0])) fun H3 e3 => k H3 ((e1.trans e2).trans e3)
    · rw [if_neg (of_decide_eq_false hb)] at e0
      refine s_ret (v := .bl (meantB what c p form)) (ev_is (ev_andV (ev_op (ev_var rfl) ev_c (rv_eq rfl)) fun _ => ev_andV (ev_op (ev_is ev_c (congrArg V.str X_is)) (ev_var rfl) rv_inS) fun _ => ev_orV (ev_op (ev_var rfl) ev_c (rv_eq rfl)) fun _ => ev_op (ev_var rfl) ev_c (rv_ne rfl)) (by rw [e0])) fun H3 e3 => k H3 ((e1.trans e2).trans e3)
end
end KX
set_option Elab.async false
set_option linter.all false
set_option maxRecDepth 100000
set_option maxHeartbeats 4000000
namespace KX
open PySem PySem.Spec PyProof.Rows L2 Evl
local macro_rules | `(tactic| walk_at "ev") => `(tactic| repeat' (first | exact ev_c | exact ev_var rfl | exact rv_I0 | refine' rv_I ?_ | refine' rv_eq ?_ | refine' rv_ne ?_ | refine' ev_op ?_ ?_ ?_ | exact ea_nil | refine' ea_cons ?_ ?_ | refine' et_test ?_ | refine' et_B ?_ | refine' et_not ?_ | refine' ev_notV ?_))

def pbI (mask : Int) (sign : Str) (meant : Bool) (p : Int) : Int := if meant then (if decide (V.str sign = V.str "-") then Builtin.bitAnd p (7 - mask) else Builtin.bitOr p mask) else (if decide (V.str sign = V.str "=") then Builtin.bitAnd p (7 - mask) else p)
def spBehind : Sp := fun vs H Q _ => ∃ (mask p : Int) (sign : Str) (meant : Bool), vs = [.int mask, .str sign, .bl meant, .int p] ∧ ∀ H', Ex H H' → Q (.int (pbI mask sign meant p)) H'
/-- the bit of a class, by its sign's code -/
def clsV (c : Nat) : Nat := if c = 117 then 4 else if c = 103 then 2 else 1
def maskN (who : Str) : Nat := (who.cps.toList.map clsV).sum
def whoOk (who : Str) : Prop := (∀ c ∈ who.cps.toList, c = 117 ∨ c = 103 ∨ c = 111) ∧ maskN who ≤ 7 ∧ who.cps.size ≤ 3
def partF (who sign what : Str) (c : Nat) (form : Str) (p : Nat) : Nat := (pbI (maskN who : Nat) sign (meantB what c p form) p).toNat
def rowV (f : Nat → Nat) : List V := (List.range 8).map fun i => V.int (f i : Nat)
def spPart : Sp := fun vs H Q _ => ∃ (who sign what form : Str) (c : Nat), vs = [.str who, .str sign, .str what, .str (sg c), .str form] ∧ whoOk who ∧ what ∈ allw ∧ ∀ p H', H p = none → Ex H H' → H' p = some (.tup (rowV (partF who sign what c form))) → Q (.ref p) H'
theorem pb_small : ∀ mask, mask < 8 → ∀ p : Nat, p < 8 → 0 ≤ Builtin.bitAnd (p : Int) (7 - (mask : Nat)) ∧ Builtin.bitAnd (p : Int) (7 - (mask : Nat)) < 8 ∧ 0 ≤ Builtin.bitOr (p : Int) (mask : Nat) ∧ Builtin.bitOr (p : Int) (mask : Nat) < 8 := by
  have h : ((List.range 8).all fun (m : Nat) => (List.range 8).all fun (p : Nat) => decide (0 ≤ Builtin.bitAnd (p : Int) (7 - (m : Nat)) ∧ Builtin.bitAnd (p : Int) (7 - (m : Nat)) < 8 ∧ 0 ≤ Builtin.bitOr (p : Int) (m : Nat) ∧ Builtin.bitOr (p : Int) (m : Nat) < 8)) = true := by decide +kernel
  exact fun m hm p hp => of_decide_eq_true (all_nat (all_nat h m hm) p hp)
theorem pb_bounds {mask p : Nat} {sign : Str} {meant : Bool} (hm : mask < 8) (hp : p < 8) : 0 ≤ pbI mask sign meant p ∧ pbI mask sign meant p < 8 := by
  obtain ⟨h1, h2, h3, h4⟩ := pb_small mask hm p hp
  unfold pbI
  split <;> split <;> first | exact ⟨h1, h2⟩ | exact ⟨h3, h4⟩ | exact ⟨by omega, by omega⟩
theorem partF_eq {who sign what form : Str} {c p : Nat} (hw : whoOk who) (hp : p < 8) : pbI (maskN who : Nat) sign (meantB what c p form) p = (partF who sign what c form p : Nat) ∧ partF who sign what c form p < 8 := by
  obtain ⟨h1, h2⟩ := pb_bounds (mask := maskN who) (p := p) (sign := sign) (meant := meantB what c p form) (by have := hw.2.1; omega) hp
  unfold partF
  omega
/-- a call that gives a new tuple -/
def SpU (sp : Sp) (vs : List V) (H : Hp) (xs : List V) : Prop := ∀ H1, Ex H H1 → ∀ Q : VK, (∀ p H2, H1 p = none → Ex H1 H2 → H2 p = some (.tup xs) → Q (.ref p) H2) → ∀ E : XK, sp vs H1 Q E
theorem eu_call {σ : L2.St} {H : Hp} {sp : Sp} {dvs vs xs : List V} {E : XK} {ta : TA} (h : EvA ta σ H vs) (hs : SpU sp (vs ++ dvs) H xs) : EvU (tCall sp dvs E ta) σ H xs := fun H1 e Q q =>
  h H1 e _ fun Ha ea => hs Ha (e.trans ea) Q (fun p Hb new eb at_ => q p Hb (fresh_back ea new) (ea.trans eb) at_) E
theorem u_is : ("u" : Str) = ⟨#[117]⟩ ∧ ("g" : Str) = ⟨#[103]⟩ ∧ ("o" : Str) = ⟨#[111]⟩ := by decide +kernel
theorem given_all {n : Nat} {v : Nat → V} : given n (fun _ => true) v = (List.range n).map v := by
  unfold given
  rw [List.filter_eq_self.mpr fun _ _ => rfl]
section
variable {P : Program} {w : World} {K : PySem.W.Frag} {mg : Str → Option Value} {base : Heap} {a : Ads}
theorem ok_pattern_behind (T : Txt w K mg a) : FnOk P w K mg base CX0 1 a.f_pattern_behind a.d_pattern_behind ["mask", "sign", "meant", "pattern"] spBehind := by
  refine T.fn_pattern_behind.ok sc_pattern_behind (fun vs H Q E h => ?_) (fun cdv A outer s H vs Q E hr h => ?_)
  · obtain ⟨_, _, _, _, rfl, _⟩ := h
    rfl
  · obtain ⟨mask, p, sign, meant, rfl, k⟩ := h
    refine ⟨_, (pss_cons (ps_if (pt_val (pv 2)) (pss_one (ps_ret (pe_ifExp (pt_cmpR op_eq (pv 1) pe_str (nomark _)) (pe_op op_and (pv 3) (pe_op op_sub pe_int (pv 0))) (pe_op op_or (pv 3) (pv 0))))) pss_nil)
    (pss_one (ps_ret (pe_ifExp (pt_cmpR op_eq (pv 1) pe_str (nomark _)) (pe_op op_and (pv 3) (pe_op op_sub pe_int (pv 0))) (pv 3))))), ?_⟩
    refine q_when (b := meant) (et_B (ev_var rfl)) (fun hb H1 e1 => ?_) (fun hb H1 e1 => ?_)
    · refine s_ret (v := .int (pbI mask sign meant p)) (ev_if (b := decide (V.str sign = V.str "-")) (et_test (ev_op (ev_var rfl) ev_c (rv_eq rfl))) (fun hc => ev_is (by walk_at "ev") ?_) (fun hc => ev_is (by walk_at "ev") ?_)) fun H2 e2 => k H2 (e1.trans e2)
      · unfold pbI; rw [hb, hc] <;> rfl
      · unfold pbI; rw [hb, hc] <;> rfl
    · refine s_ret (v := .int (pbI mask sign meant p)) (ev_if (b := decide (V.str sign = V.str "=")) (et_test (ev_op (ev_var rfl) ev_c (rv_eq rfl))) (fun hc => ev_is (by walk_at "ev") ?_) (fun hc => ev_is (by walk_at "ev") ?_)) fun H2 e2 => k H2 (e1.trans e2)
      · unfold pbI; rw [hb, hc] <;> rfl
      · unfold pbI; rw [hb, hc] <;> rfl
theorem ok_part_of (T : Txt w K mg a) : FnOk P w K mg base CX0 3 a.f_part_of a.d_part_of ["who", "sign", "what", "letter", "form"] spPart := by
  have G_pattern_behind : FnOk P w K mg base CX0 1 _ _ _ _ := ok_pattern_behind T
  have G_is_meant : FnOk P w K mg base CX0 1 _ _ _ _ := ok_is_meant T
  obtain ⟨es, n, D, ⟨t4, hu⟩, ⟨t2, hg⟩, ⟨t1, ho⟩, hno⟩ := T.d_CLASSES
  refine T.fn_part_of.ok sc_part_of (fun vs H Q E h => ?_) (fun cdv A outer s H vs Q E hr h => ?_)
  · obtain ⟨_, _, _, _, _, rfl, _⟩ := h
    rfl
  · obtain ⟨who, sign, what, form, c, rfl, hw, hwh, k⟩ := h
    have hrc : Room 1 _ := hr.mono (by decide)
    refine ⟨_, (pss_cons (ps_set (i := 5) sc_part_of.nd rfl (Or.inr rfl) (pe_callB (cr_sum rfl) (by rfl) T.b_sum (by decide +kernel) (pa_cons (pe_lc (own := [("told", 6)]) (g := gName 6) rfl sc_part_of.nd (pi_str (pv 0)) (blkOk_by (own := [("told", 6)]) (N := n_part_of) (sc := defScope s_part_of) (by decide +kernel)) (fun _ _ _ _ _ => (pg_name (i := 6) sc_part_of.nd rfl (Or.inl rfl))) (fun _ _ _ _ _ => pts_nil) (fun _ _ _ _ _ => (pe_ix (r := rIxD K w) ix_kdict (pe_glob (v := .ref a.k_CLASSES) rfl T.mg_CLASSES rfl) (pv 6) (fun _ _ => rfl)))) pa_nil)))
    (pss_one (ps_ret (pe_callTy call_tuple_of (by rfl) T.b_tuple (by decide +kernel) (pa_cons (pe_lc (own := [("pattern", 7)]) (g := gName 7) rfl sc_part_of.nd (pi_tup (pe_glob (v := .ref a.k_PATTERNS) rfl T.mg_PATTERNS rfl)) (blkOk_by (own := [("pattern", 7)]) (N := n_part_of) (sc := defScope s_part_of) (by decide +kernel)) (fun _ _ _ _ _ => (pg_name (i := 7) sc_part_of.nd rfl (Or.inl rfl))) (fun _ _ _ _ _ => pts_nil) (fun _ _ _ _ _ => (pe_call G_pattern_behind hrc rfl T.mg_pattern_behind T.fn_pattern_behind.kp (bd_pattern_behind T) .nil pass0 (pa_cons (pv 5) (pa_cons (pv 1) (pa_cons (pe_call G_is_meant hrc rfl T.mg_is_meant T.fn_is_meant.kp (bd_is_meant T) .nil pass0 (pa_cons (pv 2) (pa_cons (pv 3) (pa_cons (pv 7) (pa_cons (pv 4) pa_nil))))) (pa_cons (pv 7) pa_nil))))))) pa_nil))))), ?_⟩
    have hc : ∀ (i d : Nat), who.cps[i]? = some d → ∃ t : Tok, PySem.W.nsIn K a.k_CLASSES (⟨#[d]⟩ : Str) = some (some (.int (clsV d : Nat) t)) := fun i d hd => by
      have hm : d ∈ who.cps.toList := by rw [← Array.getElem?_toList] at hd; exact List.mem_of_getElem? hd
      rcases hw.1 d hm with rfl | rfl | rfl
      · exact ⟨t4, by rw [← u_is.1]; exact hu⟩
      · exact ⟨t2, by rw [← u_is.2.1]; exact hg⟩
      · exact ⟨t1, by rw [← u_is.2.2]; exact ho⟩
    refine q_asg (v := .int (maskN who : Nat)) (ev_is (ev_sum (ns := who.cps.toList.map fun d => ((clsV d : Nat) : Int)) (el_is (el_lcS (s := who) (fun _ => true) (fun i => V.int (clsV (who.cps.toList.getD i 0) : Nat)) (ev_var rfl) (by have := hw.2.2; omega) (fun _ => rfl) (fun _ _ _ _ _ => et_yes)
      (fun i d H2 e2 hd _ => ?_)) ?_)) ?_) fun H1 e1 => ?_
    · obtain ⟨t, ht⟩ := hc i d hd
      refine ev_is (ev_op ev_c (ev_var rfl) (rv_kix (v := .int (clsV d : Nat)) D ht ⟨_, rfl⟩)) ?_
      rw [← Array.getElem?_toList] at hd
      simp [List.getD, hd]
    · rw [given_all]
      apply List.ext_getElem
      · simp
      · intro i h1 h2
        simp at h1 h2 ⊢
        simp [h1]
    · congr 1
      unfold maskN
      have : ∀ xs : List Nat, (xs.map fun d => ((clsV d : Nat) : Int)).sum = ((xs.map clsV).sum : Nat) := by
        intro xs
        induction xs with
        | nil => rfl
        | cons x xs ih => simp only [List.map_cons, List.sum_cons, ih]; omega
      exact this _
    refine s_retU (xs := rowV (partF who sign what c form)) (eu_tuple (el_is (el_lcT (xs := [0, 1, 2, 3, 4, 5, 6, 7].map V.int) (σ' := fun x => [some (.str who), some (.str sign), some (.str what), some (.str (sg c)), some (.str form), some (.int (maskN who : Nat)), none, some x]) (fun _ => true) (fun i => V.int (partF who sign what c form i : Nat)) ev_c (T.t_PATTERNS _) (by decide)
      (fun i x H2 Q' e2 hi q => q) (fun _ => rfl) (fun _ _ _ _ _ => et_yes) (fun i x H2 e2 hi _ => ?_)) (by rw [given_all]; rfl))) fun p H2 hp e2 h2 => k p H2 (fresh_back e1 hp) (e1.trans e2) h2
    obtain ⟨hi8, rfl⟩ : i < 8 ∧ x = .int (i : Nat) := by
      have h8 := (List.getElem?_eq_some_iff.mp hi).1
      have h8' : i < 8 := h8
      refine ⟨h8', ?_⟩
      have : ∀ j, j < 8 → ([0, 1, 2, 3, 4, 5, 6, 7].map V.int)[j]? = some (.int (j : Nat)) := by
        intro j hj
        match j, hj with
        | 0, _ => rfl | 1, _ => rfl | 2, _ => rfl | 3, _ => rfl | 4, _ => rfl | 5, _ => rfl | 6, _ => rfl | 7, _ => rfl
      rw [this i h8'] at hi
      exact (Option.some.inj hi).symm
    refine ev_is (ev_call (vs := [.int (maskN who : Nat), .str sign, .bl (meantB what c i form), .int (i : Nat)]) (ea_cons (ev_var rfl) (ea_cons (ev_var rfl) (ea_cons (ev_call (vs := [.str what, .str (sg c), .int (i : Nat), .str form]) (by walk_at "ev") fun H3 e3 Q3 q3 E3 => ⟨what, form, c, i, rfl, hwh, q3⟩) (ea_cons (ev_var rfl) ea_nil)))) fun H3 e3 Q3 q3 E3 => ⟨_, _, _, _, rfl, q3⟩) ?_
    rw [(partF_eq (sign := sign) (what := what) (form := form) (c := c) hw hi8).1]
end
end KX
set_option Elab.async false
set_option linter.all false
set_option maxRecDepth 100000
set_option maxHeartbeats 4000000
namespace KX
open PySem PySem.Spec PyProof.Rows L2 Evl
local macro_rules | `(tactic| walk_at "ev") => `(tactic| repeat' (first | exact ev_c | exact ev_var rfl | exact rv_I0 | refine' rv_I ?_ | refine' rv_eq ?_ | refine' rv_ne ?_ | refine' ev_op ?_ ?_ ?_ | exact ea_nil | refine' ea_cons ?_ ?_ | refine' et_test ?_ | refine' et_B ?_ | refine' et_not ?_ | refine' ev_notV ?_))

section
variable {K : PySem.W.Frag} {σ : L2.St} {H H' : Hp} {ta tb te tx tv : TE} {t u : TT} {x y z v : V} {r : R2} {D : Ends} {tz : TS}
theorem q_asgT {xs : List V} {n : Nat} {tgs : TGs} (h : EvU te σ H xs) (hl : xs.length = n) (k : ∀ p H1, H p = none → Ex H H1 → H1 p = some (.tup xs) → tgs xs σ H1 (tz D)) : tSeq (tAsg te (gTup K n tgs)) tz D σ H :=
  h H (Ex.refl _) _ fun p H1 hp e h1 => ⟨p, xs, rfl, st_of h1, hl, k p H1 hp e h1⟩
theorem rv_rowT {p : Addr} {f : Nat → Nat} {i : Nat} (h : SqT K H p (rowV f)) (hi : i < 8) : RV (rIxT K) (.ref p) (.int (i : Nat)) H (.int (f i : Nat)) := rv_ixT h (atI_nat (by unfold rowV; simp [hi]))
end
def spParts (K : PySem.W.Frag) : Sp := fun vs H Q _ => ∃ (t t0 t1 t2 t3 : Addr) (form : Str), vs = [.ref t, .str form] ∧ SqT K H t [.ref t0, .ref t1, .ref t2, .ref t3] ∧ ∀ p H', H p = none → Ex H H' → H' p = some (.tup [.ref t0, .ref t1, .ref (if decide (V.str form = V.str "file") then t2 else t3)]) → Q (.ref p) H'
/-- the number that a table makes -/
def numI (f0 f1 f2 f3 : Nat → Nat) (n : Nat) (form : Str) : Int := Builtin.bitOr (Builtin.bitOr (bitsN (f0 (patN n 4)) 4 : Nat) (bitsN (f1 (patN n 2)) 2 : Nat)) (bitsN ((if decide (V.str form = V.str "file") then f2 else f3) (patN n 1)) 1 : Nat)
def Tab (K : PySem.W.Frag) (H : Hp) (t : Addr) (f0 f1 f2 f3 : Nat → Nat) : Prop := ∃ t0 t1 t2 t3 : Addr, SqT K H t [.ref t0, .ref t1, .ref t2, .ref t3] ∧ SqT K H t0 (rowV f0) ∧ SqT K H t1 (rowV f1) ∧ SqT K H t2 (rowV f2) ∧ SqT K H t3 (rowV f3)
theorem Tab.mono {K : PySem.W.Frag} {H H' : Hp} {t : Addr} {f0 f1 f2 f3 : Nat → Nat} (h : Tab K H t f0 f1 f2 f3) (e : Ex H H') : Tab K H' t f0 f1 f2 f3 := by
  obtain ⟨t0, t1, t2, t3, h, h0, h1, h2, h3⟩ := h
  exact ⟨t0, t1, t2, t3, ex_t e h, ex_t e h0, ex_t e h1, ex_t e h2, ex_t e h3⟩
def Low (f : Nat → Nat) : Prop := ∀ i, i < 8 → f i < 8
def spNB (K : PySem.W.Frag) : Sp := fun vs H Q _ => ∃ (t : Addr) (f0 f1 f2 f3 : Nat → Nat) (n : Nat) (form : Str), vs = [.ref t, .int n, .str form] ∧ n < 512 ∧ Tab K H t f0 f1 f2 f3 ∧ Low f0 ∧ Low f1 ∧ Low f2 ∧ Low f3 ∧ ∀ H', Ex H H' → Q (.int (numI f0 f1 f2 f3 n form)) H'
theorem pat_lt : ∀ w : Nat, (w = 1 ∨ w = 2 ∨ w = 4) → ∀ n : Nat, n < 512 → patN n w < 8 := by
  intro w hw n hn
  unfold patN
  have h1 := Nat.mod_lt (n / w / 64) (show 0 < 2 by decide)
  have h2 := Nat.mod_lt (n / w / 8) (show 0 < 2 by decide)
  have h3 := Nat.mod_lt (n / w) (show 0 < 2 by decide)
  omega
section
variable {P : Program} {w : World} {K : PySem.W.Frag} {mg : Str → Option Value} {base : Heap} {a : Ads}
theorem ok_parts_for (T : Txt w K mg a) : FnOk P w K mg base CX0 1 a.f_parts_for a.d_parts_for ["tables", "form"] (spParts K) := by
  refine T.fn_parts_for.ok sc_parts_for (fun vs H Q E h => ?_) (fun cdv A outer s H vs Q E hr h => ?_)
  · obtain ⟨_, _, _, _, _, _, rfl, _⟩ := h
    rfl
  · obtain ⟨t, t0, t1, t2, t3, form, rfl, ht, k⟩ := h
    refine ⟨_, (pss_one (ps_ret (pe_tup (pa_cons (pe_ix ix_tup (pv 0) pe_int (fun _ _ => rfl)) (pa_cons (pe_ix ix_tup (pv 0) pe_int (fun _ _ => rfl)) (pa_cons (pe_ix ix_tup (pv 0) (pe_ifExp (pt_cmpR op_eq (pv 1) pe_str (nomark _)) pe_int pe_int) (fun _ _ => rfl)) pa_nil)))))), ?_⟩
    refine s_retU (xs := [.ref t0, .ref t1, .ref (if decide (V.str form = V.str "file") then t2 else t3)]) (eu_tup (ea_cons (ev_op (ev_var rfl) ev_c (rv_ixT ht rfl)) (ea_cons (ev_op (ev_var rfl) ev_c (rv_ixT ht rfl)) (ea_cons (ev_op (ev_var rfl) (ev_if (b := decide (V.str form = V.str "file")) (v := .int (if decide (V.str form = V.str "file") then 2 else 3)) (et_test (ev_op (ev_var rfl) ev_c (rv_eq rfl))) (fun hb => ev_is ev_c (by rw [hb] <;> rfl)) (fun hb => ev_is ev_c (by rw [hb] <;> rfl))) (rv_ixT ht (by cases decide (V.str form = V.str "file") <;> rfl))) ea_nil))) (by show 3 ≤ 100000; decide)) fun p H1 hp e1 h1 => k p H1 hp e1 h1
theorem ok_number_behind (T : Txt w K mg a) : FnOk P w K mg base CX0 3 a.f_number_behind a.d_number_behind ["tables", "number", "form"] (spNB K) := by
  have G_parts_for : FnOk P w K mg base CX0 1 _ _ _ _ := ok_parts_for T
  have G_bits_of : FnOk P w K mg base CX0 1 _ _ _ _ := ok_bits_of T.fn_bits_of
  have G_pattern_in : FnOk P w K mg base CX0 1 _ _ _ _ := ok_pattern_in T.fn_pattern_in
  refine T.fn_number_behind.ok sc_number_behind (fun vs H Q E h => ?_) (fun cdv A outer s H vs Q E hr h => ?_)
  · obtain ⟨_, _, _, _, _, _, _, rfl, _⟩ := h
    rfl
  · obtain ⟨t, f0, f1, f2, f3, n, form, rfl, hn, ⟨t0, t1, t2, t3, ht, h0, h1, h2, h3⟩, l0, l1, l2, l3, k⟩ := h
    have hrc : Room 1 _ := hr.mono (by decide)
    refine ⟨_, (pss_cons (ps_asg (pe_call G_parts_for hrc rfl T.mg_parts_for T.fn_parts_for.kp (bd_parts_for T) .nil pass0 (pa_cons (pv 0) (pa_cons (pv 2) pa_nil))) (pg_tup rfl (pgs_cons (pg_name (i := 3) sc_number_behind.nd rfl (Or.inl rfl)) (pgs_cons (pg_name (i := 4) sc_number_behind.nd rfl (Or.inl rfl)) (pgs_cons (pg_name (i := 5) sc_number_behind.nd rfl (Or.inl rfl)) pgs_nil)))))
    (pss_one (ps_ret (pe_op op_or (pe_op op_or (pe_call G_bits_of hrc rfl T.mg_bits_of T.fn_bits_of.kp (bd_bits_of T) .nil pass0 (pa_cons (pe_ix ix_tup (pv 3) (pe_call G_pattern_in hrc rfl T.mg_pattern_in T.fn_pattern_in.kp (bd_pattern_in T) .nil pass0 (pa_cons (pv 1) (pa_cons pe_int pa_nil))) (fun _ _ => rfl)) (pa_cons pe_int pa_nil))) (pe_call G_bits_of hrc rfl T.mg_bits_of T.fn_bits_of.kp (bd_bits_of T) .nil pass0 (pa_cons (pe_ix ix_tup (pv 4) (pe_call G_pattern_in hrc rfl T.mg_pattern_in T.fn_pattern_in.kp (bd_pattern_in T) .nil pass0 (pa_cons (pv 1) (pa_cons pe_int pa_nil))) (fun _ _ => rfl)) (pa_cons pe_int pa_nil)))) (pe_call G_bits_of hrc rfl T.mg_bits_of T.fn_bits_of.kp (bd_bits_of T) .nil pass0 (pa_cons (pe_ix ix_tup (pv 5) (pe_call G_pattern_in hrc rfl T.mg_pattern_in T.fn_pattern_in.kp (bd_pattern_in T) .nil pass0 (pa_cons (pv 1) (pa_cons pe_int pa_nil))) (fun _ _ => rfl)) (pa_cons pe_int pa_nil))))))), ?_⟩
    refine q_asgT (xs := [.ref t0, .ref t1, .ref (if decide (V.str form = V.str "file") then t2 else t3)]) (eu_call (vs := [.ref t, .str form]) (by walk_at "ev") fun H1 e1 Q1 q1 E1 => ⟨t, t0, t1, t2, t3, form, rfl, ex_t e1 ht, q1⟩) rfl fun p H1 hp e1 hx => ?_
    refine ⟨_, _, rfl, _, _, rfl, _, _, rfl, rfl, ?_⟩
    have hq : SqT K H (if decide (V.str form = V.str "file") then t2 else t3) (rowV (if decide (V.str form = V.str "file") then f2 else f3)) := by
      cases decide (V.str form = V.str "file")
      · exact h3
      · exact h2
    have lq : Low (if decide (V.str form = V.str "file") then f2 else f3) := by
      cases decide (V.str form = V.str "file")
      · exact l3
      · exact l2
    have pat : ∀ (wt : Nat) (hw : wt = 1 ∨ wt = 2 ∨ wt = 4) (E : XK) (σ : L2.St) (H2 : Hp), σ[1]? = some (some (.int (n : Nat))) → Ev (tCall spPat [] E (tCons (tVar 1) (tCons (tC (.int (wt : Nat))) tNil))) σ H2 (.int (patN n wt : Nat)) := fun wt hw E σ H2 hs =>
      ev_call (vs := [.int (n : Nat), .int (wt : Nat)]) (ea_cons (ev_var hs) (ea_cons ev_c ea_nil)) fun H3 e3 Q3 q3 E3 => ⟨n, wt, rfl, hn, hw, q3⟩
    have bits : ∀ (p wt : Nat) (hp : p < 8) (hw : wt = 1 ∨ wt = 2 ∨ wt = 4) (E : XK) (te : TE) (σ : L2.St) (H2 : Hp), Ev te σ H2 (.int (p : Nat)) → Ev (tCall spBits [] E (tCons te (tCons (tC (.int (wt : Nat))) tNil))) σ H2 (.int (bitsN p wt : Nat)) := fun p wt hp hw E te σ H2 he =>
      ev_call (vs := [.int (p : Nat), .int (wt : Nat)]) (ea_cons he (ea_cons ev_c ea_nil)) fun H3 e3 Q3 q3 E3 => ⟨p, wt, rfl, hp, hw, q3⟩
    refine s_ret (v := .int (numI f0 f1 f2 f3 n form)) (ev_op (ev_op (bits _ 4 (l0 _ (pat_lt 4 (by decide) n hn)) (by decide) _ _ _ _ (ev_op (ev_var rfl) (pat 4 (by decide) _ _ _ rfl) (rv_rowT (ex_t e1 h0) (pat_lt 4 (by decide) n hn))))
      (bits _ 2 (l1 _ (pat_lt 2 (by decide) n hn)) (by decide) _ _ _ _ (ev_op (ev_var rfl) (pat 2 (by decide) _ _ _ rfl) (rv_rowT (ex_t e1 h1) (pat_lt 2 (by decide) n hn)))) rv_I0)
      (bits _ 1 (lq _ (pat_lt 1 (by decide) n hn)) (by decide) _ _ _ _ (ev_op (ev_var rfl) (pat 1 (by decide) _ _ _ rfl) (rv_rowT (ex_t e1 hq) (pat_lt 1 (by decide) n hn)))) rv_I0) fun H2 e2 => k H2 (e1.trans e2)
end
end KX
set_option Elab.async false
set_option linter.all false
set_option maxRecDepth 100000
set_option maxHeartbeats 4000000
namespace KX
open PySem PySem.Spec PyProof.Rows L2 Evl
local macro_rules | `(tactic| walk_at "ev") => `(tactic| repeat' (first | exact ev_c | exact ev_var rfl | exact rv_I0 | refine' rv_I ?_ | refine' rv_eq ?_ | refine' rv_ne ?_ | refine' ev_op ?_ ?_ ?_ | exact ea_nil | refine' ea_cons ?_ ?_ | refine' et_test ?_ | refine' et_B ?_ | refine' et_not ?_ | refine' ev_notV ?_))

/-- a field, the written part named -/
theorem pe_fldE {X : Cx} {K : PySem.W.Frag} {e : Expr} {ta : TE} {f : Str} {pos : Pos} (he : PE X e ta) (hb : attributeBase e f X.env (eval e X.env) = eval e X.env) (hK : X.K = K := by rfl) : PE X (.Attribute e f pos) (tFld K ta f) := by
  subst hK
  exact pe_fld he hb
section
variable {K : PySem.W.Frag} {σ : L2.St} {H H' : Hp} {ta tb te tx tv : TE} {t u : TT} {x y z v : V} {r : R2} {D : Ends} {tz : TS}
/-- all but p stay -/
def ExB (p : Addr) (H H' : Hp) : Prop := ∀ b o, H b = some o → b ≠ p → H' b = some o
theorem ExB.refl (p : Addr) (H : Hp) : ExB p H H := fun _ _ h _ => h
theorem ExB.trans {p : Addr} {H H1 H2 : Hp} (a : ExB p H H1) (b : ExB p H1 H2) : ExB p H H2 := fun x o h n => b x o (a x o h n) n
theorem ExB.of {p : Addr} {H H' : Hp} (e : Ex H H') : ExB p H H' := fun x o h _ => e x o h
/-- self.f = e -/
theorem q_fld {p C dx : Addr} {fs : List (Str × V)} {f : Str} (hv : Ev tv σ H y) (ha : Ev ta σ H (.ref p)) (hp : H p = some (.ins C dx fs)) (c : Cls K C) (n : NoAttr K C f) (hl : fs.length < 1000)
    (k : ∀ H1, ExB p H H1 → H1 p = some (.ins C dx (putF f y fs)) → tz D σ H1) : tSeq (sFld K ta tv f) tz D σ H :=
  hv H (Ex.refl _) _ fun H1 e1 => ha H1 e1 _ fun H2 e2 => ⟨p, C, dx, fs, rfl, e2 _ _ (e1 _ _ hp), c, n, hl, k _ (fun b o hb ne => by rw [upd_ne ne]; exact e2 _ _ (e1 _ _ hb)) upd_same⟩
/-- a new list whose items are new tuples -/
def EvLL (te : TE) (σ : L2.St) (H : Hp) (n : Nat) (rows : Nat → List V) : Prop := ∀ H1, Ex H H1 → ∀ Q : VK, (∀ (p : Addr) (qs : List Addr) (H2 : Hp), H1 p = none → Ex H1 H2 → qs.length = n → H2 p = some (.lst (qs.map V.ref)) → (∀ j q, qs[j]? = some q → H1 q = none ∧ H2 q = some (.tup (rows j))) → Q (.ref p) H2) → te σ H1 Q
def EvUU (te : TE) (σ : L2.St) (H : Hp) (n : Nat) (rows : Nat → List V) : Prop := ∀ H1, Ex H H1 → ∀ Q : VK, (∀ (p : Addr) (qs : List Addr) (H2 : Hp), H1 p = none → Ex H1 H2 → qs.length = n → H2 p = some (.tup (qs.map V.ref)) → (∀ j q, qs[j]? = some q → H1 q = none ∧ H2 q = some (.tup (rows j))) → Q (.ref p) H2) → te σ H1 Q
theorem yes_at {Q : Bool → Hp → Prop} (h : Q true H) : tYes σ H Q := h
theorem ell_lcT {a : Addr} {xs : List V} {tl : TE} {g : TG} {vs : List Nat} {σ' : Nat → L2.St} (rows : Nat → List V) (h : Ev tl σ H (.ref a)) (hx : SqT K H a xs) (hz : xs.length ≤ 40000)
    (hg : ∀ (i : Nat) (x : V) H1 (Q : L2.St → Hp → Prop), Ex H H1 → xs[i]? = some x → Q (σ' i) H1 → g x (wipe σ vs) H1 Q) (hw : ∀ i, wipe (σ' i) vs = wipe σ vs)
    (he : ∀ (i : Nat) (x : V) H1, Ex H H1 → xs[i]? = some x → EvU te (σ' i) H1 (rows i)) :
    EvLL (tLc (iTup K tl) g tYes te vs) σ H xs.length rows := fun H0 e Q q => h H0 e _ fun H1 e1 => ⟨a, rfl, ⟨xs, ex_t (e.trans e1) hx⟩, fun Dl hD =>
  lc_tup (xs := xs) (fun i H' => H1 Dl = none ∧ Ex H1 H' ∧ ∃ qs : List Addr, qs.length = i ∧ H' Dl = some (.lst (qs.map V.ref)) ∧ ∀ j q, qs[j]? = some q → H1 q = none ∧ H' q = some (.tup (rows j)) ∧ q ≠ Dl) ⟨hD, Ex.new hD, [], rfl, upd_same, fun j q hq => by simp at hq⟩ (fun i H' _ p => ex_t ((e.trans e1).trans p.2.1) hx)
    (fun i x H' hi ⟨p1, p2, qs, p3, p4, p5⟩ => hg i x H' _ ((e.trans e1).trans p2) hi ⟨hw i, by
      refine yes_at (iteT ?_)
      refine he i x H1 (e.trans e1) hi H' p2 _ fun q H4 hq e4 h4 => ⟨qs.map V.ref, e4 _ _ p4, sz_lt (by rw [List.length_map]; have := (List.getElem?_eq_some_iff.mp hi).1; omega), p1, Ex.mut (p2.trans e4) p1, qs ++ [q], by rw [List.length_append, p3] <;> rfl, by rw [upd_same, List.map_append] <;> rfl, fun j r hr => ?_⟩
      have qD : q ≠ Dl := fun z => by rw [z, p4] at hq; cases hq
      by_cases hj : j < qs.length
      · rw [List.getElem?_append_left hj] at hr
        obtain ⟨r1, r2, r3⟩ := p5 j r hr
        exact ⟨r1, by rw [upd_ne r3]; exact e4 _ _ r2, r3⟩
      · have hj2 : j = qs.length := by
          have := (List.getElem?_eq_some_iff.mp hr).1
          rw [List.length_append] at this
          have e1 : ([q] : List Addr).length = 1 := rfl
          omega
        subst hj2
        rw [List.getElem?_append_right (Nat.le_refl _), Nat.sub_self] at hr
        obtain rfl : q = r := Option.some.inj hr
        exact ⟨fresh_back p2 hq, by rw [upd_ne qD, p3]; exact h4, qD⟩⟩)
    (fun H' ⟨p1, p2, qs, p3, p4, p5⟩ => q Dl qs H' (fresh_back e1 p1) (e1.trans p2) p3 p4 fun j r hr => ⟨fresh_back e1 (p5 j r hr).1, (p5 j r hr).2.1⟩)⟩
theorem euu_tuple {n : Nat} {rows : Nat → List V} (h : EvLL te σ H n rows) : EvUU (tCB (fun xs H Q => ∃ p ys, xs = [.ref p] ∧ ((SqL K H p ys ∧ ∀ l, H l = none → Q (.ref l) (upd H l (.tup ys))) ∨ (SqT K H p ys ∧ Q (.ref p) H))) (tCons te tNil)) σ H n rows := fun H1 e Q q =>
  h H1 e _ fun p qs H2 _ e2 hl h2 h3 => ⟨p, qs.map V.ref, rfl, .inl ⟨sq_of h2, fun l hn => q l qs _ (fresh_back e2 hn) (e2.trans (Ex.new hn)) hl upd_same fun j r hr => ⟨(h3 j r hr).1, Ex.new hn _ _ (h3 j r hr).2⟩⟩⟩
/-- self.f = a new tuple of new tuples -/
theorem q_fldU {p C dx : Addr} {fs : List (Str × V)} {f : Str} {n : Nat} {rows : Nat → List V} (hv : EvUU tv σ H n rows) (ha : Ev ta σ H (.ref p)) (hp : H p = some (.ins C dx fs)) (c : Cls K C) (na : NoAttr K C f) (hl : fs.length < 1000)
    (k : ∀ (t : Addr) (qs : List Addr) (H1 : Hp), ExB p H H1 → qs.length = n → H1 t = some (.tup (qs.map V.ref)) → (∀ j q, qs[j]? = some q → H1 q = some (.tup (rows j))) → H1 p = some (.ins C dx (putF f (.ref t) fs)) → D.nx σ H1) : sFld K ta tv f D σ H :=
  hv H (Ex.refl _) _ fun t qs H1 ht e1 hq h1 h3 => ha H1 e1 _ fun H2 e2 => ⟨p, C, dx, fs, rfl, e2 _ _ (e1 _ _ hp), c, na, hl, k t qs _ (fun b o hb ne => by rw [upd_ne ne]; exact e2 _ _ (e1 _ _ hb)) hq
    (by rw [upd_ne (fun z => by rw [z, hp] at ht; cases ht)]; exact e2 _ _ h1) (fun j q hj => by rw [upd_ne (fun z => by have := (h3 j q hj).1; rw [z, hp] at this; cases this)]; exact e2 _ _ (h3 j q hj).2) upd_same⟩
end
def allWho : List Str := ["ugo", "u", "g", "o", "ug", "uo", "go"]
def allSign : List Str := ["+", "-", "="]
/-- the fields of a clause -/
def clFs (who sign what : Str) (t : Addr) : List (Str × V) := putF "_tables" (.ref t) (putF "_what" (.str what) (putF "_sign" (.str sign) (putF "_who" (.str who) [])))
def tabF (who sign what : Str) (i : Nat) : Nat → Nat := partF who sign what (if i = 0 then 114 else if i = 1 then 119 else 120) (if i = 3 then "folder" else "file")
structure ClauseAt (K : PySem.W.Frag) (a : Ads) (H : Hp) (p : Addr) (who sign what : Str) : Prop where
  ob : ∃ dx t, H p = some (.ins a.f_Clause dx (clFs who sign what t)) ∧ Tab K H t (tabF who sign what 0) (tabF who sign what 1) (tabF who sign what 2) (tabF who sign what 3)
theorem ClauseAt.mono {K : PySem.W.Frag} {a : Ads} {H H' : Hp} {p : Addr} {who sign what : Str} (m : ClauseAt K a H p who sign what) (e : Ex H H') : ClauseAt K a H' p who sign what := by
  obtain ⟨dx, t, h, ht⟩ := m.ob
  exact ⟨dx, t, e _ _ h, ht.mono e⟩
theorem fs_who (who sign what : Str) (t : Addr) : (clFs who sign what t).lookup ("_who" : Str) = some (.str who) := by
  unfold clFs
  rw [lookup_putF, if_neg (by decide +kernel), lookup_putF, if_neg (by decide +kernel), lookup_putF, if_neg (by decide +kernel), lookup_putF, if_pos rfl]
theorem fs_sign (who sign what : Str) (t : Addr) : (clFs who sign what t).lookup ("_sign" : Str) = some (.str sign) := by
  unfold clFs
  rw [lookup_putF, if_neg (by decide +kernel), lookup_putF, if_neg (by decide +kernel), lookup_putF, if_pos rfl]
theorem fs_what (who sign what : Str) (t : Addr) : (clFs who sign what t).lookup ("_what" : Str) = some (.str what) := by
  unfold clFs
  rw [lookup_putF, if_neg (by decide +kernel), lookup_putF, if_pos rfl]
theorem fs_tables (who sign what : Str) (t : Addr) : (clFs who sign what t).lookup ("_tables" : Str) = some (.ref t) := by
  unfold clFs
  rw [lookup_putF, if_pos rfl]
def spClause (K : PySem.W.Frag) (a : Ads) : Sp := fun vs H Q _ => ∃ (p dx : Addr) (who0 who sign what : Str), vs = [.ref p, .str who0, .str sign, .str what] ∧ (who0 = who ∨ (who0 = "a" ∧ who = "ugo")) ∧ who ∈ allWho ∧ sign ∈ allSign ∧ what ∈ allw ∧ H p = some (.ins a.f_Clause dx []) ∧ ∀ H', ExB p H H' → ClauseAt K a H' p who sign what → Q .non H'
theorem who_facts : ∀ who ∈ allWho, ((!decide (V.str who = V.str "a")) && (decide (V.str who = V.str "") || !(decide (V.str who = V.str (Txt.join "" (chosen who "ugo")))))) = false ∧ decide (V.str who = V.str "a") = false := by decide +kernel
theorem who0_facts {who0 who : Str} (h : who0 = who ∨ (who0 = "a" ∧ who = "ugo")) (hw : who ∈ allWho) : ((!decide (V.str who0 = V.str "a")) && (decide (V.str who0 = V.str "") || !(decide (V.str who0 = V.str (Txt.join "" (chosen who0 "ugo")))))) = false := by
  rcases h with rfl | ⟨rfl, _⟩
  · exact (who_facts _ hw).1
  · rw [decide_eq_true rfl]; rfl
theorem who0_a {who0 who : Str} (h : who0 = who ∨ (who0 = "a" ∧ who = "ugo")) (hw : who ∈ allWho) (hb : decide (V.str who0 = V.str "a") = true) : who = "ugo" := by
  rcases h with rfl | ⟨_, e⟩
  · rw [(who_facts _ hw).2] at hb; cases hb
  · exact e
theorem who0_n {who0 who : Str} (h : who0 = who ∨ (who0 = "a" ∧ who = "ugo")) (hb : decide (V.str who0 = V.str "a") = false) : who0 = who := by
  rcases h with e | ⟨rfl, _⟩
  · exact e
  · rw [decide_eq_true rfl] at hb; cases hb
theorem who_ok : ∀ who ∈ allWho, whoOk who := by
  have h : ∀ who ∈ allWho, (who.cps.toList.all fun c => decide (c = 117 ∨ c = 103 ∨ c = 111)) = true ∧ maskN who ≤ 7 ∧ who.cps.size ≤ 3 := by decide +kernel
  intro who hw
  obtain ⟨h1, h2, h3⟩ := h who hw
  exact ⟨fun c hc => of_decide_eq_true (List.all_eq_true.mp h1 c hc), h2, h3⟩
theorem sign_facts : ∀ sign ∈ allSign, inV (.str sign) [.str "+", .str "-", .str "="] = true := by decide +kernel
theorem what_facts : ∀ what ∈ allw, ((!inV (.str what) [.str "u", .str "g", .str "o"]) && !(decide (V.str what = V.str (Txt.join "" (chosen what "rwxX"))))) = false := by decide +kernel
end KX
set_option Elab.async false
set_option linter.all false
set_option maxRecDepth 100000
set_option maxHeartbeats 4000000
namespace KX
open PySem PySem.Spec PyProof.Rows L2 Evl
local macro_rules | `(tactic| walk_at "ev") => `(tactic| repeat' (first | exact ev_c | exact ev_var rfl | exact rv_I0 | refine' rv_I ?_ | refine' rv_eq ?_ | refine' rv_ne ?_ | refine' ev_op ?_ ?_ ?_ | exact ea_nil | refine' ea_cons ?_ ?_ | refine' et_test ?_ | refine' et_B ?_ | refine' et_not ?_ | refine' ev_notV ?_))

theorem Tab.mk4 {K : PySem.W.Frag} {H : Hp} {t : Addr} {qs : List Addr} {rows : Nat → Nat → Nat} (hl : qs.length = 4) (ht : H t = some (.tup (qs.map V.ref))) (h : ∀ j q, qs[j]? = some q → H q = some (.tup (rowV (rows j)))) : Tab K H t (rows 0) (rows 1) (rows 2) (rows 3) := by
  match qs, hl with
  | [q0, q1, q2, q3], _ => exact ⟨q0, q1, q2, q3, st_of ht, st_of (h 0 q0 rfl), st_of (h 1 q1 rfl), st_of (h 2 q2 rfl), st_of (h 3 q3 rfl)⟩
theorem letters_are : ("r" : Str) = sg 114 ∧ ("w" : Str) = sg 119 ∧ ("x" : Str) = sg 120 := by decide +kernel
section
variable {P : Program} {w : World} {K : PySem.W.Frag} {mg : Str → Option Value} {base : Heap} {a : Ads}
theorem ok_Clause_init (T : Txt w K mg a) : FnOk P w K mg base CX0 5 a.f_ClauseD_initD a.d_ClauseD_initD ["self", "who", "sign", "what"] (spClause K a) := by
  have G_is_choice : FnOk P w K mg base CX0 3 _ _ _ _ := (ok_is_choice T).mono (by decide)
  have G_part_of : FnOk P w K mg base CX0 3 _ _ _ _ := ok_part_of T
  refine T.fn_ClauseD_initD.ok sc_ClauseD_initD (fun vs H Q E h => ?_) (fun cdv A outer s H vs Q E hr h => ?_)
  · obtain ⟨_, _, _, _, _, _, rfl, _⟩ := h
    rfl
  · obtain ⟨p, dx, who0, who, sign, what, rfl, hw0, hwho, hsign, hwhat, hp, k⟩ := h
    have hrc : Room 3 _ := hr.mono (by decide)
    refine ⟨_, (pss_cons (ps_if (PW.pt (pw_and (pt_cmpR op_ne (pv 1) pe_str (nomark _)) (pw_and1 (PW.pt (pw_or (pt_cmpR op_eq (pv 1) pe_str (nomark _)) (pw_or1 (pt_not (pt_val (pe_call G_is_choice hrc rfl T.mg_is_choice T.fn_is_choice.kp (bd_is_choice T) .nil pass0 (pa_cons (pv 1) (pa_cons pe_str pa_nil))))))))))) (pss_one ps_never) pss_nil)
    (pss_cons (ps_if (pt_cmpR op_notIn_seq (pv 2) (pe_glob (v := .ref a.k_SIGNS) rfl T.mg_SIGNS rfl) (by rfl)) (pss_one ps_never) pss_nil)
    (pss_cons (ps_if (PW.pt (pw_and (pt_cmpR op_notIn_seq (pv 3) (pe_tup (pa_cons pe_str (pa_cons pe_str (pa_cons pe_str pa_nil)))) (by rfl)) (pw_and1 (pt_not (pt_val (pe_call G_is_choice hrc rfl T.mg_is_choice T.fn_is_choice.kp (bd_is_choice T) .nil pass0 (pa_cons (pv 3) (pa_cons pe_str pa_nil)))))))) (pss_one ps_never) pss_nil)
    (pss_cons (ps_fld (pv 0) (pe_ifExp (pt_cmpR op_eq (pv 1) pe_str (nomark _)) pe_str (pv 1)) rfl)
    (pss_cons (ps_fld (pv 0) (pv 2) rfl)
    (pss_cons (ps_fld (pv 0) (pv 3) rfl)
    (pss_one (ps_fld (pv 0) (pe_callTy call_tuple_of (by rfl) T.b_tuple (by decide +kernel) (pa_cons (pe_lc (own := [("letter", 4), ("form", 5)]) (g := gTup K 2 (gCons (gName 4) (gCons (gName 5) gNil))) rfl sc_ClauseD_initD.nd (pi_tup (pe_glob (v := .ref a.k_PARTS) rfl T.mg_PARTS rfl)) (blkOk_by (own := [("letter", 4), ("form", 5)]) (N := n_ClauseD_initD) (sc := defScope s_ClauseD_initD) (by decide +kernel)) (fun _ _ _ _ _ => (pg_tup rfl (pgs_cons (pg_name (i := 4) sc_ClauseD_initD.nd rfl (Or.inl rfl)) (pgs_cons (pg_name (i := 5) sc_ClauseD_initD.nd rfl (Or.inl rfl)) pgs_nil)))) (fun _ _ _ _ _ => pts_nil) (fun _ _ _ _ _ => (pe_call G_part_of hrc rfl T.mg_part_of T.fn_part_of.kp (bd_part_of T) .nil pass0 (pa_cons (pe_fldE (K := K) (pv 0) rfl) (pa_cons (pv 2) (pa_cons (pv 3) (pa_cons (pv 4) (pa_cons (pv 5) pa_nil)))))))) pa_nil)) rfl)))))))), ?_⟩
    have choice : ∀ (i : Nat) (v l : Str) (hl : l.cps.size ≤ 20) (E : XK) (σ : L2.St) (H2 : Hp), σ[i]? = some (some (.str v)) → Ev (tCall spChoice [] E (tCons (tVar i) (tCons (tC (.str l)) tNil))) σ H2 (.bl (decide (V.str v = V.str (Txt.join "" (chosen v l))))) := fun i v l hl E σ H2 hs =>
      ev_call (vs := [.str v, .str l]) (ea_cons (ev_var hs) (ea_cons ev_c ea_nil)) fun H3 e3 Q3 q3 E3 => ⟨v, l, rfl, hl, q3⟩
    refine q_when (b := false) (et_is (et_and (et_test (ev_op (ev_var rfl) ev_c (rv_ne rfl))) fun _ => et_or (et_test (ev_op (ev_var rfl) ev_c (rv_eq rfl))) fun _ => et_not (et_B (choice 1 who0 "ugo" (by decide +kernel) _ _ _ rfl))) (who0_facts hw0 hwho)) (fun z => nomatch z) fun _ H1 e1 => ?_
    refine q_when (b := false) (et_is (et_test (ev_op (ev_var rfl) ev_c (rv_niT (T.t_SIGNS _) rfl rfl))) (by rw [sign_facts sign hsign] <;> rfl)) (fun z => nomatch z) fun _ H2 e2 => ?_
    refine q_when (b := false) (et_is (et_and (et_test (ev_niU (ev_var rfl) (eu_tup (by walk_at "ev") (by decide)) rfl rfl)) fun _ => et_not (et_B (choice 3 what "rwxX" (by decide +kernel) _ _ _ rfl))) (what_facts what hwhat)) (fun z => nomatch z) fun _ H3 e3 => ?_
    have hp3 := e3 _ _ (e2 _ _ (e1 _ _ hp))
    refine q_fld (y := .str who) (ev_if (b := decide (V.str who0 = V.str "a")) (et_test (ev_op (ev_var rfl) ev_c (rv_eq rfl))) (fun hb => ev_is ev_c (by rw [who0_a hw0 hwho hb])) fun hb => ev_is (ev_var rfl) (by rw [who0_n hw0 hb])) (ev_var rfl) hp3 T.c_Clause T.n_who_Clause (by decide) fun H4 e4 hp4 => ?_
    refine q_fld (y := .str sign) (ev_var rfl) (ev_var rfl) hp4 T.c_Clause T.n_sign_Clause (by show 1 < 1000; decide) fun H5 e5 hp5 => ?_
    refine q_fld (y := .str what) (ev_var rfl) (ev_var rfl) hp5 T.c_Clause T.n_what_Clause (by exact Nat.lt_of_le_of_lt (Nat.le_trans (length_putF _ _ _) (Nat.succ_le_succ (length_putF _ _ _))) (by decide)) fun H6 e6 hp6 => ?_
    obtain ⟨p1, p2, p3, p4, ht, h1, h2, h3, h4⟩ := T.t_PARTS H6
    have hwho6 : (putF "_what" (V.str what) (putF "_sign" (V.str sign) (putF "_who" (V.str who) []))).lookup ("_who" : Str) = some (.str who) := by
      rw [lookup_putF, if_neg (by decide +kernel), lookup_putF, if_neg (by decide +kernel), lookup_putF, if_pos rfl]
    have gPart : ∀ (i : Nat) (x : V) (H1 : Hp), Ex H6 H1 → ([.ref p1, .ref p2, .ref p3, .ref p4] : List V)[i]? = some x → ∃ q : Addr, x = .ref q ∧ SqT K H1 q [.str (sg (if i = 0 then 114 else if i = 1 then 119 else 120)), .str (if i = 3 then "folder" else "file")] := fun i x H1 e hi => by
      match i, hi with
      | 0, hi => exact ⟨p1, (Option.some.inj hi).symm, by rw [letters_are.1] at h1; exact ex_t e h1⟩
      | 1, hi => exact ⟨p2, (Option.some.inj hi).symm, by rw [letters_are.2.1] at h2; exact ex_t e h2⟩
      | 2, hi => exact ⟨p3, (Option.some.inj hi).symm, by rw [letters_are.2.2] at h3; exact ex_t e h3⟩
      | 3, hi => exact ⟨p4, (Option.some.inj hi).symm, by rw [letters_are.2.2] at h4; exact ex_t e h4⟩
      | n + 4, hi => simp at hi
    refine q_fldU (n := 4) (rows := fun i => rowV (tabF who sign what i)) (euu_tuple (ell_lcT (xs := [.ref p1, .ref p2, .ref p3, .ref p4]) (σ' := fun i => [some (.ref p), some (.str who0), some (.str sign), some (.str what), some (.str (sg (if i = 0 then 114 else if i = 1 then 119 else 120))), some (.str (if i = 3 then "folder" else "file"))]) (fun i => rowV (tabF who sign what i)) ev_c ht (by show 4 ≤ 40000; decide) (fun i x H1 Q' e hi q => ?_) (fun _ => rfl) (fun i x H1 e hi => ?_))) (ev_var rfl) hp6 T.c_Clause T.n_tables_Clause ?_ ?_
    · obtain ⟨q', rfl, hq'⟩ := gPart i x H1 e hi
      exact ⟨q', _, rfl, hq', rfl, _, _, rfl, _, _, rfl, rfl, q⟩
    · exact eu_call (vs := [.str who, .str sign, .str what, .str (sg (if i = 0 then 114 else if i = 1 then 119 else 120)), .str (if i = 3 then "folder" else "file")]) (ea_cons (ev_fld (ev_var rfl) (e _ _ hp6) T.c_Clause T.n_who_Clause hwho6) (by walk_at "ev")) fun H2 e2 Q2 q2 E2 => ⟨who, sign, what, _, _, rfl, who_ok who hwho, hwhat, q2⟩
    · exact Nat.lt_of_le_of_lt (Nat.le_trans (length_putF _ _ _) (Nat.succ_le_succ (Nat.le_trans (length_putF _ _ _) (Nat.succ_le_succ (length_putF _ _ _))))) (by decide)
    · intro t qs H7 e7 hl h7 hr7 hp7
      refine k H7 (((((ExB.of e1).trans (ExB.of e2)).trans (ExB.of e3)).trans e4).trans (e5.trans (e6.trans e7))) ⟨dx, t, hp7, ?_⟩
      exact Tab.mk4 (rows := tabF who sign what) hl h7 hr7
theorem ok_Clause_who (T : Txt w K mg a) : FnOk P w K mg base CX0 1 a.f_Clause_who a.d_Clause_who ["self"] (getSp a.f_Clause "_who") := by
  obtain ⟨oc, od, kV, doc, pm, an, cdv, ct, osl, e, lk, hcd⟩ := T.fn_Clause_who.ex
  rw [e]
  exact fn_getter (by rw [← e]; exact lk) hcd sc_Clause_who rfl rfl T.c_Clause T.n_who_Clause
theorem ok_Clause_sign (T : Txt w K mg a) : FnOk P w K mg base CX0 1 a.f_Clause_sign a.d_Clause_sign ["self"] (getSp a.f_Clause "_sign") := by
  obtain ⟨oc, od, kV, doc, pm, an, cdv, ct, osl, e, lk, hcd⟩ := T.fn_Clause_sign.ex
  rw [e]
  exact fn_getter (by rw [← e]; exact lk) hcd sc_Clause_sign rfl rfl T.c_Clause T.n_sign_Clause
theorem ok_Clause_what (T : Txt w K mg a) : FnOk P w K mg base CX0 1 a.f_Clause_what a.d_Clause_what ["self"] (getSp a.f_Clause "_what") := by
  obtain ⟨oc, od, kV, doc, pm, an, cdv, ct, osl, e, lk, hcd⟩ := T.fn_Clause_what.ex
  rw [e]
  exact fn_getter (by rw [← e]; exact lk) hcd sc_Clause_what rfl rfl T.c_Clause T.n_what_Clause
end
end KX
set_option Elab.async false
set_option linter.all false
set_option maxRecDepth 100000
set_option maxHeartbeats 4000000
namespace KX
open PySem PySem.Spec PyProof.Rows L2 Evl
local macro_rules | `(tactic| walk_at "ev") => `(tactic| repeat' (first | exact ev_c | exact ev_var rfl | exact rv_I0 | refine' rv_I ?_ | refine' rv_eq ?_ | refine' rv_ne ?_ | refine' ev_op ?_ ?_ ?_ | exact ea_nil | refine' ea_cons ?_ ?_ | refine' et_test ?_ | refine' et_B ?_ | refine' et_not ?_ | refine' ev_notV ?_))

/-- a new Mode -/
def EvM (a : Ads) (te : TE) (σ : L2.St) (H : Hp) (n : Nat) : Prop := ∀ H1, Ex H H1 → ∀ Q : VK, (∀ p H2, H1 p = none → Ex H1 H2 → ModeAt a H2 p n → Q (.ref p) H2) → te σ H1 Q
theorem em_mode {a : Ads} {te : TE} {σ : L2.St} {H : Hp} {n : Nat} {E : XK} (h : Ev te σ H (.int n)) (hn : n < 512) : EvM a (tMake a.f_Mode (spMode a) [] E (tCons te tNil)) σ H n := fun H1 e1 Q q =>
  h H1 e1 _ fun H2 e2 x dx hx hdx hne => ⟨x, dx, n, rfl, hn, upd_same, fun H3 k3 h3 => ⟨rfl, q x H3 (fresh_back e2 hx) (e2.trans fun b o hb => by
    have bx := ne_of_none hb hx
    have bdx := ne_of_none hb hdx
    exact k3 b o (by rw [upd_ne bx, upd_ne bdx]; exact hb) bx) ⟨dx, h3⟩⟩⟩
theorem num_small : ∀ p0, p0 < 8 → ∀ p1, p1 < 8 → ∀ p2, p2 < 8 → 0 ≤ Builtin.bitOr (Builtin.bitOr (bitsN p0 4 : Nat) (bitsN p1 2 : Nat)) (bitsN p2 1 : Nat) ∧ Builtin.bitOr (Builtin.bitOr (bitsN p0 4 : Nat) (bitsN p1 2 : Nat)) (bitsN p2 1 : Nat) < 512 := by
  have h : ((List.range 8).all fun (p0 : Nat) => (List.range 8).all fun (p1 : Nat) => (List.range 8).all fun (p2 : Nat) => decide (0 ≤ Builtin.bitOr (Builtin.bitOr (bitsN p0 4 : Nat) (bitsN p1 2 : Nat)) (bitsN p2 1 : Nat) ∧ Builtin.bitOr (Builtin.bitOr (bitsN p0 4 : Nat) (bitsN p1 2 : Nat)) (bitsN p2 1 : Nat) < 512)) = true := by decide +kernel
  exact fun p0 h0 p1 h1 p2 h2 => of_decide_eq_true (all_nat (all_nat (all_nat h p0 h0) p1 h1) p2 h2)
/-- the number of the mode behind a clause -/
def resN (who sign what : Str) (n : Nat) (form : Str) : Nat := (numI (tabF who sign what 0) (tabF who sign what 1) (tabF who sign what 2) (tabF who sign what 3) n form).toNat
theorem tab_low {who sign what : Str} (hw : who ∈ allWho) (i : Nat) : Low (tabF who sign what i) := fun j hj => (partF_eq (who_ok who hw) hj).2
theorem res_eq {who sign what form : Str} {n : Nat} (hw : who ∈ allWho) (hn : n < 512) : numI (tabF who sign what 0) (tabF who sign what 1) (tabF who sign what 2) (tabF who sign what 3) n form = (resN who sign what n form : Nat) ∧ resN who sign what n form < 512 := by
  have lq : Low (if decide (V.str form = V.str "file") then tabF who sign what 2 else tabF who sign what 3) := by
    cases decide (V.str form = V.str "file")
    · exact tab_low hw 3
    · exact tab_low hw 2
  have z := num_small _ (tab_low (sign := sign) (what := what) hw 0 _ (pat_lt 4 (by decide) n hn)) _ (tab_low (sign := sign) (what := what) hw 1 _ (pat_lt 2 (by decide) n hn)) _ (lq _ (pat_lt 1 (by decide) n hn))
  have z' : 0 ≤ numI (tabF who sign what 0) (tabF who sign what 1) (tabF who sign what 2) (tabF who sign what 3) n form ∧ numI (tabF who sign what 0) (tabF who sign what 1) (tabF who sign what 2) (tabF who sign what 3) n form < 512 := z
  unfold resN
  omega
/-- a mode, as a number or as a Mode -/
def AsMode (a : Ads) (H : Hp) (v : V) (n : Nat) : Prop := v = .int n ∨ ∃ p, v = .ref p ∧ ModeAt a H p n
def spCall (K : PySem.W.Frag) (a : Ads) : Sp := fun vs H Q _ => ∃ (p : Addr) (v : V) (n : Nat) (who sign what form : Str), vs = [.ref p, v, .str form] ∧ ClauseAt K a H p who sign what ∧ who ∈ allWho ∧ n < 512 ∧ AsMode a H v n ∧ ∀ q H', H q = none → Ex H H' → ModeAt a H' q (resN who sign what n form) → Q (.ref q) H'
section
variable {P : Program} {w : World} {K : PySem.W.Frag} {mg : Str → Option Value} {base : Heap} {a : Ads}
theorem ok_Clause_call (T : Txt w K mg a) : FnOk P w K mg base CX0 7 a.f_ClauseD_callD a.d_ClauseD_callD ["self", "mode", "form"] (spCall K a) := by
  have G_Mode_init : FnOk P w K mg base CX0 5 _ _ _ _ := ok_Mode_init T
  have G_number_behind : FnOk P w K mg base CX0 5 _ _ _ _ := (ok_number_behind T).mono (by decide)
  have G_number_of : FnOk P w K mg base CX0 5 _ _ _ _ := ok_number_of T
  refine T.fn_ClauseD_callD.ok sc_ClauseD_callD (fun vs H Q E h => ?_) (fun cdv A outer s H vs Q E hr h => ?_)
  · obtain ⟨_, _, _, _, _, _, _, rfl, _⟩ := h
    rfl
  · obtain ⟨p, v, n, who, sign, what, form, rfl, c, hw, hn, hv, k⟩ := h
    have hrm : Room 6 _ := hr
    have hrc : Room 5 _ := hr.mono (by decide)
    obtain ⟨dx, t, hp, htab⟩ := c.ob
    obtain ⟨re, rl⟩ := res_eq (sign := sign) (what := what) (form := form) hw hn
    refine ⟨_, (pss_one (ps_ret (pe_make T.mk_Mode G_Mode_init hrm rfl T.mg_Mode (bd_ModeD_initD T) .nil pass0 (pa_cons (pe_call G_number_behind hrc rfl T.mg_number_behind T.fn_number_behind.kp (bd_number_behind T) .nil pass0 (pa_cons (pe_fld (pv 0) rfl) (pa_cons (pe_call G_number_of hrc rfl T.mg_number_of T.fn_number_of.kp (bd_number_of T) .nil pass0 (pa_cons (pv 1) pa_nil)) (pa_cons (pv 2) pa_nil)))) pa_nil)))), ?_⟩
    refine em_mode (a := a) (n := resN who sign what n form) (ev_is (ev_call (vs := [.ref t, .int n, .str form]) (ea_cons (ev_fld (ev_var rfl) hp T.c_Clause T.n_tables_Clause (fs_tables who sign what t)) (ea_cons (ev_call (vs := [v]) (by walk_at "ev") fun H1 e1 Q1 q1 E1 => ⟨v, n, rfl, hn, ?_, q1⟩) (by walk_at "ev")))
      fun H1 e1 Q1 q1 E1 => ⟨t, _, _, _, _, n, form, rfl, hn, htab.mono e1, tab_low hw 0, tab_low hw 1, tab_low hw 2, tab_low hw 3, q1⟩) (congrArg V.int re)) rl H (Ex.refl H) _ fun q H1 hq e1 m => k q H1 hq e1 m
    rcases hv with rfl | ⟨q, rfl, m⟩
    · exact .inl rfl
    · exact .inr ⟨q, rfl, m.mono e1⟩
end
end KX
set_option Elab.async false
set_option linter.all false
set_option maxRecDepth 100000
set_option maxHeartbeats 4000000
namespace KX
open PySem PySem.Spec PyProof.Rows L2 Evl
local macro_rules | `(tactic| walk_at "ev") => `(tactic| repeat' (first | exact ev_c | exact ev_var rfl | exact rv_I0 | refine' rv_I ?_ | refine' rv_eq ?_ | refine' rv_ne ?_ | refine' ev_op ?_ ?_ ?_ | exact ea_nil | refine' ea_cons ?_ ?_ | refine' et_test ?_ | refine' et_B ?_ | refine' et_not ?_ | refine' ev_notV ?_))

/-! ### the pen: a list of a list of ints, how far it is, what rests -/
def PenAt (H : Hp) (p : Addr) (n : Nat) : Prop := ∃ (l : Addr) (ns : List Int) (at_ : Nat) (rest : Int), H p = some (.lst [.ref l, .int at_, .int rest]) ∧ H l = some (.lst (ns.map V.int)) ∧ l ≠ p ∧ at_ ≤ n ∧ 0 ≤ rest ∧ ns.length ≤ 63
theorem PenAt.keep {H H' : Hp} {p : Addr} {n : Nat} (h : PenAt H p n) (e : Ex H H') : PenAt H' p n := by
  obtain ⟨l, ns, at_, rest, h1, h2, h3, h4, h5, h6⟩ := h
  exact ⟨l, ns, at_, rest, e _ _ h1, e _ _ h2, h3, h4, h5, h6⟩
theorem PenAt.ex {H : Hp} {p : Addr} {n : Nat} (h : PenAt H p n) : ∃ o, H p = some o := by
  obtain ⟨l, ns, at_, rest, h1, _⟩ := h
  exact ⟨_, h1⟩
/-- all but p stay, and p's first item does -/
structure ExP (p : Addr) (H H' : Hp) : Prop where
  ex : ExB p H H'
  fix : ∀ l x y, H p = some (.lst [.ref l, x, y]) → ∃ x' y', H' p = some (.lst [.ref l, x', y'])
theorem ExP.trans {p : Addr} {H H1 H2 : Hp} (a : ExP p H H1) (b : ExP p H1 H2) : ExP p H H2 := ⟨a.ex.trans b.ex, fun l x y h => by
  obtain ⟨x1, y1, h1⟩ := a.fix l x y h
  exact b.fix l x1 y1 h1⟩
theorem ExP.of {p : Addr} {H H' : Hp} (e : Ex H H') : ExP p H H' := ⟨ExB.of e, fun l x y h => ⟨x, y, e _ _ h⟩⟩
def spPen (K : PySem.W.Frag) : Sp := fun vs H Q _ => ∃ (s : Addr) (ns : List Int), vs = [.ref s] ∧ SqL K H s (ns.map V.int) ∧ ns.length ≤ 63 ∧ ∀ p H', H p = none → Ex H H' → PenAt H' p 0 → Q (.ref p) H'
def spDraw : Sp := fun vs H Q _ => ∃ (p : Addr) (n m : Nat), vs = [.ref p, .int m] ∧ PenAt H p n ∧ n < 100000 ∧ 0 < m ∧ m ≤ 1000 ∧ ∀ (d : Nat) H', d < m → ExP p H H' → PenAt H' p (n + 1) → Q (.int d) H'
section
variable {K : PySem.W.Frag} {σ : L2.St} {H H' : Hp} {ta tb te tx tv : TE} {t u : TT} {x y z v : V} {r : R2}
theorem el_sliceL {p : Addr} {xs : List V} {tl th : TO} {lo hi : Option Int} (h : Ev te σ H (.ref p)) (h1 : EvO tl σ H lo) (h2 : EvO th σ H hi) (hs : SqL K H p xs) : EvL (tSl (rSlL K) te tl th) σ H (cutV xs lo hi) := el_sl h h1 h2 hs
theorem el_listN {xs : List V} (h : EvL te σ H xs) : EvL (tCB (fun xs H Q => ∃ p ys, xs = [V.ref p] ∧ (SqL K H p ys ∨ SqT K H p ys) ∧ ∀ l, H l = none → Q (.ref l) (upd H l (.lst ys))) (tCons te tNil)) σ H xs := fun H1 e Q q =>
  h H1 e _ fun p H2 _ e2 h2 => ⟨p, xs, rfl, .inl (sq_of h2), fun l hl => q l _ (fresh_back e2 hl) (e2.trans (Ex.new hl)) upd_same⟩
theorem cut_ints (ns : List Int) (lo hi : Option Int) : ∃ ms : List Int, cutV (ns.map V.int) lo hi = ms.map V.int ∧ ms.length ≤ ns.length := by
  refine ⟨(ns.drop (HT.sIx ns.length 0 lo)).take (HT.sIx ns.length ns.length hi - HT.sIx ns.length 0 lo), ?_, ?_⟩
  · unfold cutV
    rw [List.length_map, List.map_take, List.map_drop]
  · rw [List.length_take, List.length_drop]
    omega
theorem ev_int {i : Int} (h : Ev te σ H (.int i)) : Ev (tCB (fun xs H Q => (∃ i, xs = [V.int i] ∧ Q (.int i) H) ∨ ∃ k, xs = [V.bl k] ∧ Q (.int (if k then 1 else 0)) H) (tCons te tNil)) σ H (.int i) := fun H1 e Q q => h H1 e _ fun H2 e2 => .inl ⟨i, rfl, q H2 e2⟩
theorem ev_intB {k : Bool} (h : Ev te σ H (.bl k)) : Ev (tCB (fun xs H Q => (∃ i, xs = [V.int i] ∧ Q (.int i) H) ∨ ∃ k, xs = [V.bl k] ∧ Q (.int (if k then 1 else 0)) H) (tCons te tNil)) σ H (.int (if k then 1 else 0)) := fun H1 e Q q => h H1 e _ fun H2 e2 => .inr ⟨k, rfl, q H2 e2⟩
theorem ev_lenS {p : Addr} {xs : List V} (ha : Ev ta σ H (.ref p)) (h : SqL K H p xs) : Ev (tCB (fun xs H Q => ∃ p ys, xs = [V.ref p] ∧ (SqL K H p ys ∨ SqT K H p ys) ∧ Q (.int (ys.length : Nat)) H) (tCons ta tNil)) σ H (.int (xs.length : Nat)) := ev_len ha h
theorem ev_abs {i : Int} (h : Ev te σ H (.int i)) : Ev (tCB (fun xs H Q => ∃ i, xs = [V.int i] ∧ Q (.int (if i < 0 then -i else i)) H) (tCons te tNil)) σ H (.int (if i < 0 then -i else i)) := fun H1 e Q q => h H1 e _ fun H2 e2 => ⟨i, rfl, q H2 e2⟩
end
theorem dp_ints {K : PySem.W.Frag} {H : Hp} : ∀ ns : List Int, DpAll K H (ns.map V.int) (ns.map PyData.int)
  | [] => .nil
  | n :: ns => .cons (.int n) (dp_ints ns)
theorem rv_neE {K : PySem.W.Frag} {H : Hp} {l q : Addr} {ns : List Int} (hl : H l = some (.lst (ns.map V.int))) (hq : H q = some (.lst [])) : RV (rNeD K) (.ref l) (.ref q) H (.bl (!PyData.eqv (.list (ns.map PyData.int)) (.list []))) := fun H1 e Q k =>
  ⟨.list (ns.map PyData.int), .list [], .lst (sq_of (e _ _ hl)) (dp_ints ns), .lst (sq_of (e _ _ hq)) .nil, PySem.W.ke_shaped_ints ns, PySem.W.ke_shaped_ints [], k H1 (Ex.refl H1)⟩
theorem eqv_nil (ns : List Int) : PyData.eqv (.list (ns.map PyData.int)) (.list []) = decide (ns = []) := by
  cases ns with
  | nil => simp [PyData.eqv, PyData.eqvAll]
  | cons n ns => simp [PyData.eqv, PyData.eqvAll]
theorem mul_bd {x y A B : Int} (h0 : 0 ≤ x) (h1 : x ≤ A) (h2 : 0 ≤ y) (h3 : y ≤ B) : 0 ≤ x * y ∧ x * y ≤ A * B :=
  ⟨Int.mul_nonneg h0 h2, Int.mul_le_mul h1 h3 h2 (Int.le_trans h0 h1)⟩
theorem s_retPen {te : TE} {σ : L2.St} {H : Hp} {D : Ends} {xs : List V} {x y : V} (h : EvL te σ H xs) (k : ∀ l p H1, H l = none → Ex H H1 → H1 l = some (.lst xs) → H1 p = none → D.rt (.ref p) (upd H1 p (.lst [.ref l, x, y]))) : tRet (tLst (tCons te (tCons (tC x) (tCons (tC y) tNil)))) D σ H :=
  h H (Ex.refl H) _ fun l H1 hl e1 h1 => ⟨by show 3 ≤ sizeLine; decide, fun p hp => k l p H1 hl e1 h1 hp⟩
section
variable {P : Program} {w : World} {K : PySem.W.Frag} {mg : Str → Option Value} {base : Heap} {a : Ads}
theorem ok_pen (T : Txt w K mg a) : FnOk P w K mg base CX0 1 a.f__law_pen a.d__law_pen ["_law_script"] (spPen K) := by
  refine T.fn__law_pen.ok sc__law_pen (fun vs H Q E h => ?_) (fun cdv A outer s H vs Q E hr h => ?_)
  · obtain ⟨_, _, rfl, _⟩ := h
    rfl
  · obtain ⟨sc, ns, rfl, hs, hl, k⟩ := h
    refine ⟨_, (pss_one (ps_ret (pe_lst (pa_cons (pe_callTy call_list_of (by rfl) T.b_list (by decide +kernel) (pa_cons (pe_slice sl_list (pv 0) po_none (po_some pe_int)) pa_nil)) (pa_cons pe_int (pa_cons pe_int pa_nil)))))), ?_⟩
    obtain ⟨ms, e, hm⟩ := cut_ints ns none (some 63)
    refine s_retPen (el_is (el_listN (K := K) (el_sliceL (K := K) (ev_var rfl) eo_none (eo_some ev_c) hs)) e) fun l p H1 hl1 e1 h1 hp => ?_
    have lp : l ≠ p := fun z => by rw [z, hp] at h1; cases h1
    exact k p _ (fresh_back e1 hp) (e1.trans (Ex.new hp)) ⟨l, ms, 0, 0, upd_same, by rw [upd_ne lp]; exact h1, lp, Nat.le_refl 0, Int.le_refl 0, by omega⟩
theorem ok_draw (T : Txt w K mg a) : FnOk P w K mg base CX0 1 a.f__law_draw a.d__law_draw ["_law_pen_here", "_law_many"] spDraw := by
  refine T.fn__law_draw.ok sc__law_draw (fun vs H Q E h => ?_) (fun cdv A outer s H vs Q E hr h => ?_)
  · obtain ⟨_, _, _, rfl, _⟩ := h
    rfl
  · obtain ⟨p, n, m, rfl, ⟨l, ns, at_, rest, hp, hl, lp, hat, hrest, hlen⟩, hn, hm0, hm, k⟩ := h
    refine ⟨_, (pss_cons (ps_if (pt_cmpR op_gt (pe_ix ix_list (pv 0) pe_int (fun _ _ => rfl)) pe_int (nomark _)) (pss_cons (ps_set (i := 2) sc__law_draw.nd rfl (Or.inl rfl) (pe_op op_mod (pe_callTy call_int1 (by rfl) T.b_int (by decide +kernel) (pa_cons (pe_ix ix_list (pv 0) pe_int (fun _ _ => rfl)) pa_nil)) (pv 1)))
    (pss_cons (ps_asg (pe_op op_fdiv (pe_callTy call_int1 (by rfl) T.b_int (by decide +kernel) (pa_cons (pe_ix ix_list (pv 0) pe_int (fun _ _ => rfl)) pa_nil)) (pv 1)) (pg_sub (pv 0) pe_int set_list))
    (pss_one (ps_ret (pv 2))))) pss_nil)
    (pss_cons (ps_set (i := 3) sc__law_draw.nd rfl (Or.inl rfl) (pe_ix ix_list (pv 0) pe_int (fun _ _ => rfl)))
    (pss_cons (ps_asg (pe_op op_add (pv 3) pe_int) (pg_sub (pv 0) pe_int set_list))
    (pss_cons (ps_set (i := 4) sc__law_draw.nd rfl (Or.inl rfl) (pe_op op_add (pe_op op_mul pe_int (pv 3)) pe_int))
    (pss_cons (ps_if (pt_cmpR (op_neD hr.units) (pe_ix ix_list (pv 0) pe_int (fun _ _ => rfl)) (pe_lst pa_nil) (nomark _)) (pss_one (ps_set (i := 4) sc__law_draw.nd rfl (Or.inl rfl) (pe_ix ix_list (pe_ix ix_list (pv 0) pe_int (fun _ _ => rfl)) (pe_op op_mod (pe_callTy call_int1 (by rfl) T.b_int (by decide +kernel) (pa_cons (pv 3) pa_nil)) (pe_callB call_len_seq (by rfl) T.b_len PySem.boot_len (pa_cons (pe_ix ix_list (pv 0) pe_int (fun _ _ => rfl)) pa_nil))) (fun _ _ => rfl)))) pss_nil)
    (pss_cons (ps_if (PW.pt (pw_and (pt_cmpR op_lt (pv 3) (pe_callB call_len_seq (by rfl) T.b_len PySem.boot_len (pa_cons (pe_ix ix_list (pv 0) pe_int (fun _ _ => rfl)) pa_nil)) (nomark _)) (pw_and1 (pt_cmpR op_ge (pe_callB call_abs (by rfl) T.b_abs (by decide +kernel) (pa_cons (pv 4) pa_nil)) (pe_op op_pow pe_int pe_int) (nomark _))))) (pss_cons (ps_set (i := 5) sc__law_draw.nd rfl (Or.inl rfl) (pe_op op_add (pe_op op_mul pe_int (pe_op op_sub (pe_callB call_abs (by rfl) T.b_abs (by decide +kernel) (pa_cons (pv 4) pa_nil)) (pe_op op_pow pe_int pe_int))) (pe_callTy call_int1 (by rfl) T.b_int (by decide +kernel) (pa_cons (pe_cmpR op_lt (pv 4) pe_int (nomark _)) pa_nil))))
    (pss_cons (ps_asg (pe_op op_fdiv (pe_callTy call_int1 (by rfl) T.b_int (by decide +kernel) (pa_cons (pv 5) pa_nil)) (pv 1)) (pg_sub (pv 0) pe_int set_list))
    (pss_one (ps_ret (pe_op op_mod (pe_callTy call_int1 (by rfl) T.b_int (by decide +kernel) (pa_cons (pv 5) pa_nil)) (pv 1)))))) pss_nil)
    (pss_cons (ps_set (i := 6) sc__law_draw.nd rfl (Or.inl rfl) (pe_op op_mod (pe_callTy call_int1 (by rfl) T.b_int (by decide +kernel) (pa_cons (pe_op op_pow (pe_op op_add (pe_op op_add (pe_op op_mod (pe_callTy call_int1 (by rfl) T.b_int (by decide +kernel) (pa_cons (pv 4) pa_nil)) pe_int) (pe_op op_mul pe_int (pv 3))) pe_int) pe_int) pa_nil)) pe_int))
    (pss_cons (ps_set (i := 6) sc__law_draw.nd rfl (Or.inl rfl) (pe_op op_mod (pe_callTy call_int1 (by rfl) T.b_int (by decide +kernel) (pa_cons (pe_op op_pow (pe_op op_add (pe_op op_add (pe_op op_mul (pv 6) (pe_op op_add (pe_op op_mul pe_int (pv 3)) pe_int)) (pe_op op_mul (pe_op op_mul pe_int (pv 3)) (pv 3))) pe_int) pe_int) pa_nil)) pe_int))
    (pss_one (ps_ret (pe_op op_mod (pe_callTy call_int1 (by rfl) T.b_int (by decide +kernel) (pa_cons (pe_op op_fdiv (pv 6) pe_int) pa_nil)) (pv 1)))))))))))), ?_⟩
    have fin : ∀ (H1 H4 : Hp) (x r : Int) (b : Nat), ExB p H H1 → b ≤ n + 1 → 0 ≤ r → Ex (upd H1 p (.lst [.ref l, .int b, .int r])) H4 → 0 ≤ x → x < m → Q (.int x) H4 := fun H1 H4 x r b e1 hb hr0 e4 h0 h1 => by
      have ex : x = (x.toNat : Nat) := by omega
      rw [ex]
      refine k x.toNat _ (by omega) ⟨fun c o hc ne => e4 _ _ (by rw [upd_ne ne]; exact e1 _ _ hc ne), fun l' x' y' q => by
        rw [hp] at q
        cases q
        exact ⟨_, _, e4 _ _ upd_same⟩⟩ ⟨l, ns, b, r, e4 _ _ upd_same, e4 _ _ (by rw [upd_ne lp]; exact e1 _ _ hl lp), lp, hb, hr0, hlen⟩
    have hm1 : (0 : Int) < (m : Int) := by omega
    -- if pen[2] > 0
    refine q_when (b := decide (0 < rest)) (et_test (ev_op (ev_op (ev_var rfl) ev_c (rv_ixL (sq_of hp) rfl)) ev_c rv_I0)) (fun hb H1 e1 => ?_) (fun hb H1 e1 => ?_)
    · have hp1 := e1 _ _ hp
      refine q_asg (v := .int (rest % m)) (ev_op (ev_int (ev_op (ev_var rfl) ev_c (rv_ixL (sq_of hp1) rfl))) (ev_var rfl) (rv_I (by omega))) fun H2 e2 => ?_
      have hp2 := e2 _ _ hp1
      refine q_setL (j := 2) hp2 (v := .int (rest / m)) (ev_op (ev_int (ev_op (ev_var rfl) ev_c (rv_ixL (sq_of hp2) rfl))) (ev_var rfl) (rv_I ⟨by omega, by omega⟩)) (ev_var rfl) ev_c (by show 2 < 3; decide) fun H3 e3 => ?_
      refine s_ret (v := .int (rest % m)) (ev_var rfl) fun H4 e4 => ?_
      exact fin H3 H4 _ _ _ (ExB.of ((e1.trans e2).trans e3)) (Nat.le_succ_of_le hat) (Int.ediv_nonneg hrest (by omega)) e4 (Int.emod_nonneg _ (by omega)) (Int.emod_lt_of_pos _ hm1)
    · have hr0 : rest = 0 := by have := of_decide_eq_false hb; omega
      have hp1 := e1 _ _ hp
      refine q_asg (v := .int at_) (ev_op (ev_var rfl) ev_c (rv_ixL (sq_of hp1) rfl)) fun H2 e2 => ?_
      have hp2 := e2 _ _ hp1
      refine q_setL (j := 1) hp2 (v := .int (at_ + 1)) (by walk_at "ev") (ev_var rfl) ev_c (by show 1 < 3; decide) fun H3 e3 => ?_
      have e03 : Ex H H3 := (e1.trans e2).trans e3
      have hp3 : (upd H3 p (.lst [.ref l, .int (at_ + 1), .int rest])) p = some (.lst [.ref l, .int (at_ + 1), .int rest]) := upd_same
      have hl3 : (upd H3 p (.lst [.ref l, .int (at_ + 1), .int rest])) l = some (.lst (ns.map V.int)) := by rw [upd_ne lp]; exact e03 _ _ hl
      have b03 : ExB p H (upd H3 p (.lst [.ref l, .int (at_ + 1), .int rest])) := fun c o hc ne => by rw [upd_ne ne]; exact e03 _ _ hc
      generalize eK : (upd H3 p (.lst [.ref l, .int (at_ + 1), .int rest])) = K3 at hp3 hl3 b03
      show tSeq _ _ _ _ (upd H3 p (.lst [.ref l, .int (at_ + 1), .int rest]))
      rw [eK]
      -- cell
      refine q_asg (v := .int (50263 * at_ + 379)) (by walk_at "ev"; exact .inl ⟨by decide, by decide⟩) fun H4 e4 => ?_
      have hp4 := e4 _ _ hp3
      have hl4 := e4 _ _ hl3
      obtain ⟨cell, hc1, hc2⟩ : ∃ cell : Int, (ns ≠ [] → atI (ns.map V.int) ((at_ : Int) % ((ns.map V.int).length : Nat)) = some (.int cell)) ∧ (ns = [] → cell = 50263 * at_ + 379) := by
        by_cases hns : ns = []
        · exact ⟨50263 * at_ + 379, fun z => absurd hns z, fun _ => rfl⟩
        · have hpos : 0 < ns.length := List.length_pos_iff.mpr hns
          have hj : at_ % ns.length < ns.length := Nat.mod_lt _ hpos
          refine ⟨ns[at_ % ns.length], fun _ => ?_, fun z => absurd z hns⟩
          rw [List.length_map, show ((at_ : Int) % (ns.length : Nat)) = ((at_ % ns.length : Nat) : Int) by omega]
          exact atI_nat (by simp [hj])
      have hlenZ : ns ≠ [] → (0 : Int) < ((ns.map V.int).length : Nat) := fun hns => by
        have hpos : 0 < ns.length := List.length_pos_iff.mpr hns
        rw [List.length_map]; omega
      refine q_ifAsg (b := !PyData.eqv (.list (ns.map PyData.int)) (.list [])) (v := .int cell) (et_test (ev_opL (ev_op (ev_var rfl) ev_c (rv_ixL (sq_of hp4) rfl)) (el_lst ea_nil (by decide)) fun q H5 hq e5 => rv_neE (e5 _ _ hl4) hq)) (fun hb => ?_) (fun hb => ?_) fun H5 e5 => ?_
      · have hns : ns ≠ [] := fun z => by rw [eqv_nil, z] at hb; cases hb
        refine ev_op (ev_op (ev_var rfl) ev_c (rv_ixL (sq_of hp4) rfl)) (ev_op (ev_int (ev_var rfl)) (ev_lenS (ev_op (ev_var rfl) ev_c (rv_ixL (sq_of hp4) rfl)) (sq_of hl4)) (rv_I (hlenZ hns))) (rv_ixL (sq_of hl4) (hc1 hns))
      · have hns : ns = [] := by
          rw [eqv_nil] at hb
          simpa using hb
        rw [hc2 hns]
        rfl
      have hp5 := e5 _ _ hp4
      have hl5 := e5 _ _ hl4
      -- if at < len(pen[0]) and abs(cell) >= 10 ** 18
      refine q_when (b := decide ((at_ : Int) < ((ns.map V.int).length : Nat)) && decide ((10 : Int) ^ (18 : Int).toNat ≤ (if cell < 0 then -cell else cell))) (et_and (et_test (ev_op (ev_var rfl) (ev_lenS (ev_op (ev_var rfl) ev_c (rv_ixL (sq_of hp5) rfl)) (sq_of hl5)) rv_I0)) fun _ => et_test (ev_op (ev_abs (ev_var rfl)) (ev_op ev_c ev_c (rv_I ⟨by decide, by decide, by decide⟩)) rv_I0)) (fun hb H6 e6 => ?_) (fun hb H6 e6 => ?_)
      · have hge := of_decide_eq_true (Bool.and_eq_true_iff.mp hb).2
        have hp6 := e6 _ _ hp5
        refine q_asg (v := .int (2 * ((if cell < 0 then -cell else cell) - 10 ^ (18 : Int).toNat) + (if decide (cell < 0) = true then 1 else 0))) (ev_op (ev_op ev_c (ev_op (ev_abs (ev_var rfl)) (ev_op ev_c ev_c (rv_I ⟨by decide, by decide, by decide⟩)) rv_I0) (rv_I (.inl ⟨by decide, by decide⟩))) (ev_intB (ev_op (ev_var rfl) ev_c rv_I0)) rv_I0) fun H7 e7 => ?_
        have hg0 : 0 ≤ 2 * ((if cell < 0 then -cell else cell) - 10 ^ (18 : Int).toNat) + (if decide (cell < 0) = true then 1 else 0) := by
          have : (0 : Int) ≤ (if decide (cell < 0) = true then 1 else 0) := by split <;> decide
          omega
        generalize 2 * ((if cell < 0 then -cell else cell) - 10 ^ (18 : Int).toNat) + (if decide (cell < 0) = true then 1 else 0) = great at hg0
        refine q_setL (j := 2) (e7 _ _ hp6) (v := .int (great / m)) (ev_op (ev_int (ev_var rfl)) (ev_var rfl) (rv_I ⟨by omega, by omega⟩)) (ev_var rfl) ev_c (by show 2 < 3; decide) fun H8 e8 => ?_
        refine s_ret (v := .int (great % m)) (ev_op (ev_int (ev_var rfl)) (ev_var rfl) (rv_I hm1)) fun H9 e9 => ?_
        exact fin H8 H9 _ (great / m) (at_ + 1) (b03.trans (ExB.of ((((e4.trans e5).trans e6).trans e7).trans e8))) (by omega) (Int.ediv_nonneg hg0 (by omega)) e9 (Int.emod_nonneg _ (by omega)) (Int.emod_lt_of_pos _ hm1)
      · have hat5 : (at_ : Int) ≤ 100000 := by omega
        have hu0 : 0 ≤ cell % 2147483549 + 60289 * at_ + 379 ∧ cell % 2147483549 + 60289 * at_ + 379 < 18446744073709551616 := by
          have h1 := Int.emod_nonneg cell (show (2147483549 : Int) ≠ 0 by decide)
          have h2 := Int.emod_lt_of_pos cell (show (0 : Int) < 2147483549 by decide)
          omega
        refine q_asg (v := .int ((cell % 2147483549 + 60289 * at_ + 379) ^ (5 : Int).toNat % 2147483629)) (ev_op (ev_int (ev_op (ev_op (ev_op (ev_op (ev_int (ev_var rfl)) ev_c (rv_I (by decide))) (ev_op ev_c (ev_var rfl) (rv_I (.inl ⟨by decide, by decide⟩))) rv_I0) ev_c rv_I0) ev_c (rv_I ⟨by decide, by decide, by omega⟩))) ev_c (rv_I (by decide))) fun H7 e7 => ?_
        have hx0 := Int.emod_nonneg ((cell % 2147483549 + 60289 * at_ + 379) ^ (5 : Int).toNat) (show (2147483629 : Int) ≠ 0 by decide)
        have hx1 := Int.emod_lt_of_pos ((cell % 2147483549 + 60289 * at_ + 379) ^ (5 : Int).toNat) (show (0 : Int) < 2147483629 by decide)
        generalize (cell % 2147483549 + 60289 * at_ + 379) ^ (5 : Int).toNat % 2147483629 = mx at hx0 hx1
        obtain ⟨b1, b2⟩ := mul_bd hx0 (Int.le_of_lt hx1) (y := 2 * at_ + 59) (B := 300000) (by omega) (by omega)
        obtain ⟨b3, b4⟩ := mul_bd (x := 70241 * at_) (A := 8000000000) (y := at_) (B := 100000) (by omega) (by omega) (by omega) hat5
        refine q_asg (v := .int ((mx * (2 * at_ + 59) + 70241 * at_ * at_ + 17) ^ (3 : Int).toNat % 2147483587)) (ev_op (ev_int (ev_op (ev_op (ev_op (ev_op (ev_var rfl) (ev_op (ev_op ev_c (ev_var rfl) (rv_I (.inl ⟨by decide, by decide⟩))) ev_c rv_I0) (rv_I (.inl ⟨by omega, by omega⟩))) (ev_op (ev_op ev_c (ev_var rfl) (rv_I (.inl ⟨by decide, by decide⟩))) (ev_var rfl) (rv_I (.inl ⟨by omega, by omega⟩))) rv_I0) ev_c rv_I0) ev_c (rv_I ⟨by decide, by decide, by omega⟩))) ev_c (rv_I (by decide))) fun H8 e8 => ?_
        refine s_ret (v := .int (((mx * (2 * at_ + 59) + 70241 * at_ * at_ + 17) ^ (3 : Int).toNat % 2147483587) / 32 % m)) (ev_op (ev_int (ev_op (ev_var rfl) ev_c (rv_I ⟨by decide, by decide⟩))) (ev_var rfl) (rv_I hm1)) fun H9 e9 => ?_
        refine fin H3 H9 _ rest (at_ + 1) (ExB.of e03) (by omega) hrest ?_ (Int.emod_nonneg _ (by omega)) (Int.emod_lt_of_pos _ hm1)
        intro c o hc
        exact e9 _ _ (e8 _ _ (e7 _ _ (e6 _ _ (e5 _ _ (e4 _ _ (by rw [← eK]; exact hc))))))
end
end KX
set_option Elab.async false
set_option linter.all false
set_option maxRecDepth 100000
set_option maxHeartbeats 4000000
namespace KX
open PySem PySem.Spec PyProof.Rows L2 Evl
local macro_rules | `(tactic| walk_at "ev") => `(tactic| repeat' (first | exact ev_c | exact ev_var rfl | exact rv_I0 | refine' rv_I ?_ | refine' rv_eq ?_ | refine' rv_ne ?_ | refine' ev_op ?_ ?_ ?_ | exact ea_nil | refine' ea_cons ?_ ?_ | refine' et_test ?_ | refine' et_B ?_ | refine' et_not ?_ | refine' ev_notV ?_))

def spPick : Sp := fun vs H Q _ => ∃ (p s : Addr) (xs : List V) (n : Nat), vs = [.ref p, .ref s] ∧ PenAt H p n ∧ n < 100000 ∧ H s = some (.lst xs) ∧ s ≠ p ∧ 0 < xs.length ∧ xs.length ≤ 1000 ∧ ∀ x H', x ∈ xs → ExP p H H' → PenAt H' p (n + 1) → Q x H'
/-- what moves the pen at p by k, and gives a value of which P -/
def EvP (p : Addr) (te : TE) (σ : L2.St) (k : Nat) (P : V → Prop) : Prop := ∀ (n : Nat) (H : Hp), PenAt H p n → n + k ≤ 100000 → ∀ Q : VK, (∀ v H2, P v → ExP p H H2 → PenAt H2 p (n + k) → Q v H2) → te σ H Q
section
variable {σ : L2.St} {te : TE} {p : Addr} {E : XK}
theorem evp_pickC {i : Nat} {xs : List V} {ta : TA} (hs : σ[i]? = some (some (.ref p))) (hA : ∀ H, EvA ta σ H xs) (h0 : 0 < xs.length) (h1 : xs.length ≤ 1000) : EvP p (tCall spPick [] E (tCons (tVar i) (tCons (tLst ta) tNil))) σ 1 (fun v => v ∈ xs) := fun n H hp hn Q q =>
  ⟨.ref p, hs, hA H H (Ex.refl H) _ fun H1 e1 => ⟨sz_of (by omega), fun s hs1 => by
    obtain ⟨o, ho⟩ := hp.ex
    have sp : s ≠ p := fun z => by rw [z, e1 _ _ ho] at hs1; cases hs1
    have hp1 : PenAt (upd H1 s (.lst xs)) p n := (hp.keep e1).keep (Ex.new hs1)
    exact ⟨p, s, xs, n, rfl, hp1, by omega, upd_same, sp, h0, h1, fun x H2 hx e2 hp2 => q x H2 hx ((ExP.of (e1.trans (Ex.new hs1))).trans e2) hp2⟩⟩⟩
theorem evp_pickV {i j : Nat} {s : Addr} {xs : List V} (hs : σ[i]? = some (some (.ref p))) (hj : σ[j]? = some (some (.ref s))) (sp : s ≠ p) (h0 : 0 < xs.length) (h1 : xs.length ≤ 1000) (n : Nat) (H : Hp) (hp : PenAt H p n) (hn : n + 1 ≤ 100000) (hx : H s = some (.lst xs)) (Q : VK) (q : ∀ v H2, v ∈ xs → ExP p H H2 → PenAt H2 p (n + 1) → Q v H2) :
    tCall spPick [] E (tCons (tVar i) (tCons (tVar j) tNil)) σ H Q := ⟨.ref p, hs, .ref s, hj, p, s, xs, n, rfl, hp, by omega, hx, sp, h0, h1, fun x H2 hx e2 hp2 => q x H2 hx e2 hp2⟩
theorem evp_draw {i : Nat} {m : Nat} (hs : σ[i]? = some (some (.ref p))) (h0 : 0 < m) (h1 : m ≤ 1000) : EvP p (tCall spDraw [] E (tCons (tVar i) (tCons (tC (.int (m : Nat))) tNil))) σ 1 (fun v => ∃ d : Nat, v = .int (d : Nat) ∧ d < m) := fun n H hp hn Q q =>
  ⟨.ref p, hs, p, n, m, rfl, hp, by omega, h0, h1, fun d H2 hd e2 hp2 => q _ H2 ⟨d, rfl, hd⟩ e2 hp2⟩
end
def whoL : List Str := ["ugo", "u", "g", "o", "u", "g", "o", "ug", "uo", "go"]
def whoV : List V := [.str "ugo", .str "u", .str "g", .str "o", .str "u", .str "g", .str "o", .str "ug", .str "uo", .str "go"]
def whatL : List Str := ["u", "g", "o", "u", "g", "o", "r", "x", "X", "rwx", "rX"]
def whatV : List V := [.str "u", .str "g", .str "o", .str "u", .str "g", .str "o", .str "r", .str "x", .str "X", .str "rwx", .str "rX"]
def signL : List Str := ["=", "=", "=", "+", "-"]
def signV : List V := [.str "=", .str "=", .str "=", .str "+", .str "-"]
theorem lit_is {l m : List Str} (z : ∀ s ∈ l, s ∈ m) {v : V} (h : v ∈ l.map V.str) : ∃ s, v = .str s ∧ s ∈ m := by
  obtain ⟨s, hs, e⟩ := List.mem_map.mp h
  exact ⟨s, e.symm, z s hs⟩
theorem whoV_is {v : V} (h : v ∈ whoV) : ∃ s, v = .str s ∧ s ∈ allWho := lit_is (l := whoL) (by decide +kernel) h
theorem signV_is {v : V} (h : v ∈ signV) : ∃ s, v = .str s ∧ s ∈ allSign := lit_is (l := signL) (by decide +kernel) h
theorem whatV_is {v : V} (h : v ∈ whatV) : ∃ s, v = .str s ∧ s ∈ allw := lit_is (l := whatL) (by decide +kernel) h
def spLClause : Sp := fun vs H Q _ => ∃ (p : Addr) (n : Nat), vs = [.ref p] ∧ PenAt H p n ∧ n + 3 ≤ 100000 ∧ ∀ (who sign what : Str) t H', who ∈ allWho → sign ∈ allSign → what ∈ allw → ExP p H H' → PenAt H' p (n + 3) → t ≠ p → H t = none → H' t = some (.tup [.str who, .str sign, .str what]) → Q (.ref t) H'
def spLMode : Sp := fun vs H Q _ => ∃ (p : Addr) (n : Nat), vs = [.ref p] ∧ PenAt H p n ∧ n + 4 ≤ 100000 ∧ ∀ (d : Nat) H', d < 512 → ExP p H H' → PenAt H' p (n + 4) → Q (.int d) H'
section
variable {P : Program} {w : World} {K : PySem.W.Frag} {mg : Str → Option Value} {base : Heap} {a : Ads}
theorem ok_pick (T : Txt w K mg a) : FnOk P w K mg base CX0 3 a.f__law_pick a.d__law_pick ["_law_pen_here", "_law_some"] spPick := by
  have G__law_draw : FnOk P w K mg base CX0 1 _ _ _ _ := ok_draw T
  refine T.fn__law_pick.ok sc__law_pick (fun vs H Q E h => ?_) (fun cdv A outer s H vs Q E hr h => ?_)
  · obtain ⟨_, _, _, _, rfl, _⟩ := h
    rfl
  · obtain ⟨p, s, xs, n, rfl, hp, hn, hs, sp, h0, h1, k⟩ := h
    have hrc : Room 1 _ := hr.mono (by decide)
    refine ⟨_, (pss_one (ps_ret (pe_ix ix_list (pv 1) (pe_call G__law_draw hrc rfl T.mg__law_draw T.fn__law_draw.kp (bd__law_draw T) .nil pass0 (pa_cons (pv 0) (pa_cons (pe_callB call_len_seq (by rfl) T.b_len PySem.boot_len (pa_cons (pv 1) pa_nil)) pa_nil))) (fun _ _ => rfl)))), ?_⟩
    refine ⟨.ref s, rfl, .ref p, rfl, .ref s, rfl, s, xs, rfl, .inl (sq_of hs), p, n, xs.length, rfl, hp, hn, h0, h1, fun d H1 hd e1 hp1 => ?_⟩
    exact ⟨s, xs, d, xs[d], rfl, rfl, sq_of (e1.ex _ _ hs sp), atI_nat (by simp [hd]), k _ _ (List.getElem_mem hd) e1 hp1⟩
theorem ok_lclause (T : Txt w K mg a) : FnOk P w K mg base CX0 5 a.f__law_clause a.d__law_clause ["_law_pen_here"] spLClause := by
  have G__law_pick : FnOk P w K mg base CX0 3 _ _ _ _ := ok_pick T
  refine T.fn__law_clause.ok sc__law_clause (fun vs H Q E h => ?_) (fun cdv A outer s H vs Q E hr h => ?_)
  · obtain ⟨_, _, rfl, _⟩ := h
    rfl
  · obtain ⟨p, n, rfl, hp, hn, k⟩ := h
    have hrc : Room 3 _ := hr.mono (by decide)
    refine ⟨_, (pss_cons (ps_set (i := 1) sc__law_clause.nd rfl (Or.inl rfl) (pe_call G__law_pick hrc rfl T.mg__law_pick T.fn__law_pick.kp (bd__law_pick T) .nil pass0 (pa_cons (pv 0) (pa_cons (pe_lst (pa_cons pe_str (pa_cons pe_str (pa_cons pe_str (pa_cons pe_str (pa_cons pe_str (pa_cons pe_str (pa_cons pe_str (pa_cons pe_str (pa_cons pe_str (pa_cons pe_str pa_nil))))))))))) pa_nil))))
    (pss_cons (ps_set (i := 2) sc__law_clause.nd rfl (Or.inl rfl) (pe_call G__law_pick hrc rfl T.mg__law_pick T.fn__law_pick.kp (bd__law_pick T) .nil pass0 (pa_cons (pv 0) (pa_cons (pe_lst (pa_cons pe_str (pa_cons pe_str (pa_cons pe_str (pa_cons pe_str (pa_cons pe_str (pa_cons pe_str (pa_cons pe_str (pa_cons pe_str (pa_cons pe_str (pa_cons pe_str (pa_cons pe_str pa_nil)))))))))))) pa_nil))))
    (pss_one (ps_ret (pe_tup (pa_cons (pv 1) (pa_cons (pe_call G__law_pick hrc rfl T.mg__law_pick T.fn__law_pick.kp (bd__law_pick T) .nil pass0 (pa_cons (pv 0) (pa_cons (pe_lst (pa_cons pe_str (pa_cons pe_str (pa_cons pe_str (pa_cons pe_str (pa_cons pe_str pa_nil)))))) pa_nil))) (pa_cons (pv 2) pa_nil)))))))), ?_⟩
    refine evp_pickC (p := p) (xs := whoV) rfl (fun H => by unfold whoV; walk_at "ev") (by decide) (by decide) n H hp (by omega) _ fun v1 H1 hv1 e1 hp1 => ?_
    obtain ⟨who, rfl, hwho⟩ := whoV_is hv1
    refine evp_pickC (p := p) (xs := whatV) rfl (fun H => by unfold whatV; walk_at "ev") (by decide) (by decide) (n + 1) H1 hp1 (by omega) _ fun v2 H2 hv2 e2 hp2 => ?_
    obtain ⟨what, rfl, hwhat⟩ := whatV_is hv2
    refine ⟨_, rfl, ?_⟩
    refine evp_pickC (p := p) (xs := signV) rfl (fun H => by unfold signV; walk_at "ev") (by decide) (by decide) (n + 2) H2 hp2 (by omega) _ fun v3 H3 hv3 e3 hp3 => ?_
    obtain ⟨sign, rfl, hsign⟩ := signV_is hv3
    refine ⟨_, rfl, by show 3 ≤ sizeLine; decide, fun t ht => ?_⟩
    obtain ⟨o, ho⟩ := hp3.ex
    have tp : t ≠ p := fun z => by rw [z, ho] at ht; cases ht
    have b3 : ExP p H H3 := (e1.trans e2).trans e3
    exact k who sign what t _ hwho hsign hwhat (b3.trans (ExP.of (Ex.new ht))) (hp3.keep (Ex.new ht)) tp (by cases q : H t with | none => rfl | some o => rw [b3.ex _ _ q tp] at ht; cases ht) upd_same
theorem ok_lmode (T : Txt w K mg a) : FnOk P w K mg base CX0 5 a.f__law_mode a.d__law_mode ["_law_pen_here"] spLMode := by
  have G__law_pick : FnOk P w K mg base CX0 3 _ _ _ _ := ok_pick T
  have G__law_draw : FnOk P w K mg base CX0 3 _ _ _ _ := (ok_draw T).mono (by decide)
  refine T.fn__law_mode.ok sc__law_mode (fun vs H Q E h => ?_) (fun cdv A outer s H vs Q E hr h => ?_)
  · obtain ⟨_, _, rfl, _⟩ := h
    rfl
  · obtain ⟨p, n, rfl, hp, hn, k⟩ := h
    have hrc : Room 3 _ := hr.mono (by decide)
    refine ⟨_, (pss_cons (ps_set (i := 1) sc__law_mode.nd rfl (Or.inl rfl) (pe_lst (pa_cons pe_int (pa_cons pe_int (pa_cons pe_int (pa_cons pe_int (pa_cons pe_int (pa_cons pe_int (pa_cons pe_int (pa_cons pe_int (pa_cons pe_int (pa_cons pe_int (pa_cons pe_int (pa_cons pe_int pa_nil))))))))))))))
    (pss_one (ps_ret (pe_call G__law_pick hrc rfl T.mg__law_pick T.fn__law_pick.kp (bd__law_pick T) .nil pass0 (pa_cons (pv 0) (pa_cons (pe_lst (pa_cons (pe_call G__law_pick hrc rfl T.mg__law_pick T.fn__law_pick.kp (bd__law_pick T) .nil pass0 (pa_cons (pv 0) (pa_cons (pv 1) pa_nil))) (pa_cons (pe_call G__law_draw hrc rfl T.mg__law_draw T.fn__law_draw.kp (bd__law_draw T) .nil pass0 (pa_cons (pv 0) (pa_cons pe_int pa_nil))) (pa_cons (pe_call G__law_draw hrc rfl T.mg__law_draw T.fn__law_draw.kp (bd__law_draw T) .nil pass0 (pa_cons (pv 0) (pa_cons pe_int pa_nil))) pa_nil)))) pa_nil)))))), ?_⟩
    refine q_asgL (xs := [0, 511, 420, 493, 448, 7, 56, 64, 8, 1, 256, 438].map V.int) (el_lst (by walk_at "ev") (by decide)) fun s H1 hs1 e1 hs => ?_
    have hp1 := hp.keep e1
    obtain ⟨o, ho⟩ := hp.ex
    have sp : s ≠ p := fun z => by rw [z, ho] at hs1; cases hs1
    refine ⟨_, rfl, ?_⟩
    refine evp_pickV (p := p) rfl rfl sp (by decide) (by decide) n H1 hp1 (by omega) hs _ fun v2 H2 hv2 e2 hp2 => ?_
    obtain ⟨x2, hx2, rfl⟩ : ∃ x : Nat, x < 512 ∧ v2 = .int (x : Nat) := by
      obtain ⟨i, hi, rfl⟩ := List.mem_map.mp hv2
      have z : ∀ i ∈ ([0, 511, 420, 493, 448, 7, 56, 64, 8, 1, 256, 438] : List Int), 0 ≤ i ∧ i < 512 := by decide
      have := z i hi
      exact ⟨i.toNat, by omega, by congr 1; omega⟩
    refine evp_draw (p := p) (m := 512) rfl (by decide) (by decide) (n + 1) H2 hp2 (by omega) _ fun v3 H3 hv3 e3 hp3 => ?_
    obtain ⟨x3, rfl, hx3⟩ := hv3
    refine evp_draw (p := p) (m := 512) rfl (by decide) (by decide) (n + 2) H3 hp3 (by omega) _ fun v4 H4 hv4 e4 hp4 => ?_
    obtain ⟨x4, rfl, hx4⟩ := hv4
    refine ⟨by show 3 ≤ sizeLine; decide, fun t ht => ?_⟩
    obtain ⟨o4, ho4⟩ := hp4.ex
    have tp : t ≠ p := fun z => by rw [z, ho4] at ht; cases ht
    refine ⟨p, t, [.int x2, .int x3, .int x4], n + 3, rfl, hp4.keep (Ex.new ht), by omega, upd_same, tp, by show 0 < 3; decide, by show 3 ≤ 1000; decide, fun x H5 hx e5 hp5 => ?_⟩
    have b5 : ExP p H H5 := ((ExP.of e1).trans (e2.trans (e3.trans (e4.trans (ExP.of (Ex.new ht)))))).trans e5
    rcases List.mem_cons.mp hx with rfl | hx
    · exact k x2 H5 hx2 b5 hp5
    rcases List.mem_cons.mp hx with rfl | hx
    · exact k x3 H5 hx3 b5 hp5
    rcases List.mem_cons.mp hx with rfl | hx
    · exact k x4 H5 hx4 b5 hp5
    · cases hx
end
end KX
set_option Elab.async false
set_option linter.all false
set_option maxRecDepth 100000
set_option maxHeartbeats 4000000
namespace KX
open PySem PySem.Spec PyProof.Rows L2 Evl
local macro_rules | `(tactic| walk_at "ev") => `(tactic| repeat' (first | exact ev_c | exact ev_var rfl | exact rv_I0 | refine' rv_I ?_ | refine' rv_eq ?_ | refine' rv_ne ?_ | refine' ev_op ?_ ?_ ?_ | exact ea_nil | refine' ea_cons ?_ ?_ | refine' et_test ?_ | refine' et_B ?_ | refine' et_not ?_ | refine' ev_notV ?_))

abbrev ky (c : Nat) : Key := Sum.inr (sg c)
def D3 (x y z : V) : List (Key × V) := [(ky 117, x), (ky 103, y), (ky 111, z)]
theorem ky_ne : ky 117 ≠ ky 103 ∧ ky 117 ≠ ky 111 ∧ ky 103 ≠ ky 111 ∧ ky 103 ≠ ky 117 ∧ ky 111 ≠ ky 117 ∧ ky 111 ≠ ky 103 := by decide +kernel
theorem d3_u (x y z : V) : valV (D3 x y z) (ky 117) = some x := valV_pos rfl
theorem d3_g (x y z : V) : valV (D3 x y z) (ky 103) = some y := (valV_neg ky_ne.1).trans (valV_pos rfl)
theorem d3_o (x y z : V) : valV (D3 x y z) (ky 111) = some z := (valV_neg ky_ne.2.1).trans ((valV_neg ky_ne.2.2.1).trans (valV_pos rfl))
theorem d3_no {x y z : V} {k : Key} (h1 : ky 117 ≠ k) (h2 : ky 103 ≠ k) (h3 : ky 111 ≠ k) : valV (D3 x y z) k = none := (valV_neg h1).trans ((valV_neg h2).trans ((valV_neg h3).trans rfl))
theorem put_some {kvs : List (Key × V)} {k : Key} {v y : V} (h : valV kvs k = some y) : putK kvs k v = kvs.map (fun kv => if kv.1 = k then (kv.1, v) else kv) := by
  unfold putK; rw [valV_any, h]; exact if_pos rfl
theorem d3_pu (x y z v : V) : putK (D3 x y z) (ky 117) v = D3 v y z := by
  rw [put_some (d3_u x y z)]
  simp only [D3, List.map_cons, List.map_nil, if_pos, if_neg ky_ne.2.2.2.1, if_neg ky_ne.2.2.2.2.1]
theorem d3_pg (x y z v : V) : putK (D3 x y z) (ky 103) v = D3 x v z := by
  rw [put_some (d3_g x y z)]
  simp only [D3, List.map_cons, List.map_nil, if_pos, if_neg ky_ne.1, if_neg ky_ne.2.2.2.2.2]
theorem d3_po (x y z v : V) : putK (D3 x y z) (ky 111) v = D3 x y v := by
  rw [put_some (d3_o x y z)]
  simp only [D3, List.map_cons, List.map_nil, if_pos, if_neg ky_ne.2.1, if_neg ky_ne.2.2.1]
/-- three different keys, merged -/
theorem merge3 {k1 k2 k3 : Key} {x y z : V} (h1 : k1 ≠ k2) (h2 : k1 ≠ k3) (h3 : k2 ≠ k3) : mergeK [] [(k1, x), (k2, y), (k3, z)] = [(k1, x), (k2, y), (k3, z)] := by
  have e1 : putK [] k1 x = [(k1, x)] := putK_new x rfl
  have e2 : putK [(k1, x)] k2 y = [(k1, x), (k2, y)] := putK_new y ((valV_neg h1).trans rfl)
  have e3 : putK [(k1, x), (k2, y)] k3 z = [(k1, x), (k2, y), (k3, z)] := putK_new z ((valV_neg h2).trans ((valV_neg h3).trans rfl))
  show putK (putK (putK [] k1 x) k2 y) k3 z = _
  rw [e1, e2, e3]
/-- a new dict -/
def EvD (te : TE) (σ : L2.St) (H : Hp) (kvs : List (Key × V)) : Prop := ∀ H1, Ex H H1 → ∀ Q : VK, (∀ p H2, H1 p = none → Ex H1 H2 → H2 p = some (.dK kvs) → Q (.ref p) H2) → te σ H1 Q
section
variable {K : PySem.W.Frag} {σ : L2.St} {H H' : Hp} {ta tb te tx tv : TE} {t u : TT} {x y z v : V} {r : R2} {D : Ends} {tz : TS}
theorem ed_disp3 {s1 s2 s3 : Str} {t1 t2 t3 v1 v2 v3 : TE} (k1 : Ev t1 σ H (.str s1)) (h1 : Ev v1 σ H x) (k2 : Ev t2 σ H (.str s2)) (h2 : Ev v2 σ H y) (k3 : Ev t3 σ H (.str s3)) (h3 : Ev v3 σ H z) (n1 : (Sum.inr s1 : Key) ≠ .inr s2) (n2 : (Sum.inr s1 : Key) ≠ .inr s3) (n3 : (Sum.inr s2 : Key) ≠ .inr s3) :
    EvD (tDisp [(t1, v1), (t2, v2), (t3, v3)]) σ H [(.inr s1, x), (.inr s2, y), (.inr s3, z)] := fun H1 e Q q p hp => by
  have e0 : Ex H (upd H1 p (.dK [])) := e.trans (Ex.new hp)
  refine k1 _ e0 _ fun H2 e2 => h1 H2 (e0.trans e2) _ fun H3 e3 => k2 H3 ((e0.trans e2).trans e3) _ fun H4 e4 => h2 H4 (((e0.trans e2).trans e3).trans e4) _ fun H5 e5 => k3 H5 ((((e0.trans e2).trans e3).trans e4).trans e5) _ fun H6 e6 => h3 H6 (((((e0.trans e2).trans e3).trans e4).trans e5).trans e6) _ fun H7 e7 => ?_
  have e27 : Ex (upd H1 p (.dK [])) H7 := ((((e2.trans e3).trans e4).trans e5).trans e6).trans e7
  refine ⟨e27 _ _ upd_same, [(.inr s1, x), (.inr s2, y), (.inr s3, z)], rfl, by show 3 ≤ 15; decide, ?_⟩
  rw [merge3 n1 n2 n3]
  exact q p _ hp (fun b o hb => by rw [upd_ne (ne_of_none hb hp)]; exact e27 _ _ (Ex.new hp _ _ hb)) upd_same
theorem q_asgD {i : Nat} {kvs : List (Key × V)} (h : EvD te σ H kvs) (k : ∀ p H1, H p = none → Ex H H1 → H1 p = some (.dK kvs) → tz D (σ.set i (some (.ref p))) H1) : tSeq (tAsg te (gName i)) tz D σ H := h H (Ex.refl H) _ fun p H1 hp e h1 => k p H1 hp e h1
theorem ev_dget {d : Addr} {kvs : List (Key × V)} {s : Str} (h : Ev ta σ H (.ref d)) (hk : Ev tb σ H (.str s)) (hd : H d = some (.dK kvs)) (e : valV kvs (.inr s) = some v) : Ev (tDGet ta tb) σ H v := fun H1 e1 Q q =>
  h H1 e1 _ fun H2 e2 => hk H2 (e1.trans e2) _ fun H3 e3 => ⟨d, v, rfl, by rw [← e]; exact DGet.k (k := .inr s) (e3 _ _ (e2 _ _ (e1 _ _ hd))), q H3 (e2.trans e3)⟩
theorem ev_dget2 {d : Addr} {kvs : List (Key × V)} {s : Str} (h : Ev ta σ H (.ref d)) (hk : Ev tb σ H (.str s)) (hx : Ev tx σ H x) (hd : H d = some (.dK kvs)) : Ev (tDGet2 ta tb tx) σ H ((valV kvs (.inr s)).getD x) := fun H1 e1 Q q =>
  h H1 e1 _ fun H2 e2 => ⟨d, rfl, .inl ⟨kvs, .inl (e2 _ _ (e1 _ _ hd))⟩, hk H2 (e1.trans e2) _ fun H3 e3 => hx H3 ((e1.trans e2).trans e3) _ fun H4 e4 => ⟨_, DGet.k (k := .inr s) (e4 _ _ (e3 _ _ (e2 _ _ (e1 _ _ hd)))), q H4 ((e2.trans e3).trans e4)⟩⟩
theorem et_dnotin {d : Addr} {kvs : List (Key × V)} {s : Str} (hk : Ev ta σ H (.str s)) (h : Ev tb σ H (.ref d)) (hd : H d = some (.dK kvs)) : EvT (tB (tDNotIn ta tb)) σ H (!(valV kvs (.inr s)).isSome) := fun H1 e1 Q q =>
  hk H1 e1 _ fun H2 e2 => h H2 (e1.trans e2) _ fun H3 e3 => ⟨d, _, rfl, DGet.k (k := .inr s) (e3 _ _ (e2 _ _ (e1 _ _ hd))), _, rfl, q H3 (e2.trans e3)⟩
theorem ed_copy {d : Addr} {kvs : List (Key × V)} (h : Ev ta σ H (.ref d)) (hd : H d = some (.dK kvs)) : EvD (tCB (fun xs H Q => ∃ (a : Addr) (kvs : List (Key × V)), xs = [V.ref a] ∧ Rd H a (.dK kvs) ∧ ∀ p, H p = none → Q (.ref p) (upd H p (.dK kvs))) (tCons ta tNil)) σ H kvs := fun H1 e1 Q q =>
  h H1 e1 _ fun H2 e2 => ⟨d, kvs, rfl, .inl (e2 _ _ (e1 _ _ hd)), fun p hp => q p _ (fresh_back e2 hp) (e2.trans (Ex.new hp)) upd_same⟩
theorem q_dput {d : Addr} {kvs : List (Key × V)} {s : Str} (hv : Ev tv σ H v) (h : Ev ta σ H (.ref d)) (hk : Ev tb σ H (.str s)) (hd : H d = some (.dK kvs)) (hl : kvs.length < 1000) (k : ∀ H1, Ex H H1 → D.nx σ (upd H1 d (.dK (putK kvs (.inr s) v)))) : sDPut ta tb tv D σ H :=
  hv H (Ex.refl H) _ fun H1 e1 => h H1 e1 _ fun H2 e2 => hk H2 (e1.trans e2) _ fun H3 e3 => ⟨d, _, rfl, DPut.k (k := .inr s) (e3 _ _ (e2 _ _ (e1 _ _ hd))) (small1000 (Nat.le_of_lt hl)), k H3 ((e1.trans e2).trans e3)⟩
/-- over the signs of a text -/
theorem q_forS {s : Str} {j : Nat} {ts : TS} (h : Ev te σ H (.str s)) (Pv : Nat → L2.St → Hp → Prop) (h0 : ∀ H1, Ex H H1 → Pv 0 σ H1)
    (hs : ∀ (i c : Nat) σ' H', s.cps.toList[i]? = some c → Pv i σ' H' → ts { D with nx := Pv (i + 1), ct := Pv (i + 1), bk := tz D } (σ'.set j (some (.str ⟨#[c]⟩))) H') (hd : ∀ σ' H', Pv s.cps.size σ' H' → tz D σ' H') : tSeq (tFor (iStr te) (gName j) ts) tz D σ H :=
  h H (Ex.refl H) _ fun H1 e1 => ⟨s, rfl, fun i m σ' H' => m = s.cps.size - i ∧ i ≤ s.cps.size ∧ Pv i σ' H', ⟨s.cps.size, by simp, Nat.zero_le _, h0 H1 e1⟩, by
    rintro i m σ' H' ⟨rfl, hi, p⟩
    by_cases hlt : i < s.cps.size
    · refine .inr ⟨hlt, Pv (i + 1), fun σ2 H2 p' => ⟨s.cps.size - (i + 1), by omega, rfl, hlt, p'⟩, ?_⟩
      rintro x H2 ⟨rfl, c, hc, rfl⟩
      rw [← Array.getElem?_toList] at hc
      exact hs i c σ' _ hc p
    · have e : i = s.cps.size := by omega
      subst e
      exact .inl ⟨Nat.le_refl _, hd σ' H' p⟩⟩
theorem q_asgTV {p : Addr} {xs : List V} {n : Nat} {tgs : TGs} (h : Ev te σ H (.ref p)) (hx : SqT K H p xs) (hl : xs.length = n) (k : ∀ H1, Ex H H1 → tgs xs σ H1 (tz D)) : tSeq (tAsg te (gTup K n tgs)) tz D σ H :=
  h H (Ex.refl _) _ fun H1 e => ⟨p, xs, rfl, ex_t e hx, hl, k H1 e⟩
end
end KX
set_option Elab.async false
set_option linter.all false
set_option maxRecDepth 100000
set_option maxHeartbeats 4000000
namespace KX
open PySem PySem.Spec PyProof.Rows L2 Evl
local macro_rules | `(tactic| walk_at "ev") => `(tactic| repeat' (first | exact ev_c | exact ev_var rfl | exact rv_I0 | refine' rv_I ?_ | refine' rv_eq ?_ | refine' rv_ne ?_ | refine' ev_op ?_ ?_ ?_ | exact ea_nil | refine' ea_cons ?_ ?_ | refine' et_test ?_ | refine' et_B ?_ | refine' et_not ?_ | refine' ev_notV ?_))

def dgN (n c : Nat) : Nat := if c = 117 then n / 64 else if c = 103 then n / 8 % 8 else n % 8
def gainN (sign : Str) (d m : Nat) : Nat := if sign = "+" then d ||| m else if sign = "-" then d &&& (7 - m) else m
def hasN (what : Str) (c : Nat) : Nat := if decide (c ∈ what.cps.toList) = true then 1 else 0
def baseN (what : Str) : Nat := 4 * hasN what 114 + 2 * hasN what 119 + hasN what 120
def moreB (what : Str) (n : Nat) (form : Str) : Bool := decide (88 ∈ what.cps.toList) && (decide (V.str form = V.str "folder") || decide ((0 : Int) < Builtin.bitAnd (n : Int) 73))
def meantN (what : Str) (n : Nat) (form : Str) : Nat := if what = "u" then dgN n 117 else if what = "g" then dgN n 103 else if what = "o" then dgN n 111 else if moreB what n form = true then baseN what ||| 1 else baseN what
def partN (who sign what : Str) (n : Nat) (form : Str) (c : Nat) : Nat := if c ∈ who.cps.toList then gainN sign (dgN n c) (meantN what n form) else dgN n c
def doneN (who sign what : Str) (n : Nat) (form : Str) : Nat := 64 * partN who sign what n form 117 + 8 * partN who sign what n form 103 + partN who sign what n form 111
theorem dg_lt {n c : Nat} (h : n < 512) : dgN n c < 8 := by unfold dgN; split <;> first | omega | (split <;> omega)
theorem dg_is : ∀ n : Nat, n < 512 → (n : Int) / 2 ^ (6 : Int).toNat = (dgN n 117 : Nat) ∧ Builtin.bitAnd ((n : Int) / 2 ^ (3 : Int).toNat) 7 = (dgN n 103 : Nat) ∧ Builtin.bitAnd (n : Int) 7 = (dgN n 111 : Nat) := by
  have h : ((List.range 512).all fun (n : Nat) => decide ((n : Int) / 2 ^ (6 : Int).toNat = (dgN n 117 : Nat) ∧ Builtin.bitAnd ((n : Int) / 2 ^ (3 : Int).toNat) 7 = (dgN n 103 : Nat) ∧ Builtin.bitAnd (n : Int) 7 = (dgN n 111 : Nat))) = true := by decide +kernel
  exact fun n hn => of_decide_eq_true (all_nat h n hn)
theorem gain_is : ∀ d, d < 8 → ∀ m, m < 8 → Builtin.bitOr (d : Nat) (m : Nat) = ((d ||| m : Nat) : Int) ∧ Builtin.bitAnd (d : Nat) (7 - (m : Nat)) = ((d &&& (7 - m) : Nat) : Int) ∧ (d ||| m) < 8 ∧ (d &&& (7 - m)) < 8 := by
  have h : ((List.range 8).all fun (d : Nat) => (List.range 8).all fun (m : Nat) => decide (Builtin.bitOr (d : Nat) (m : Nat) = ((d ||| m : Nat) : Int) ∧ Builtin.bitAnd (d : Nat) (7 - (m : Nat)) = ((d &&& (7 - m) : Nat) : Int) ∧ (d ||| m) < 8 ∧ (d &&& (7 - m)) < 8)) = true := by decide +kernel
  exact fun d hd m hm => of_decide_eq_true (all_nat (all_nat h d hd) m hm)
theorem has_le (what : Str) (c : Nat) : hasN what c ≤ 1 := by unfold hasN; split <;> decide
theorem base_lt (what : Str) : baseN what < 8 := by
  have := has_le what 114
  have := has_le what 119
  have := has_le what 120
  unfold baseN
  omega
theorem meant_lt {what form : Str} {n : Nat} (h : n < 512) : meantN what n form < 8 := by
  unfold meantN
  split
  · exact dg_lt h
  split
  · exact dg_lt h
  split
  · exact dg_lt h
  split
  · exact (gain_is _ (base_lt what) 1 (by decide)).2.2.1
  · exact base_lt what
theorem gain_lt {sign : Str} {d m : Nat} (hd : d < 8) (hm : m < 8) : gainN sign d m < 8 := by
  obtain ⟨_, _, h1, h2⟩ := gain_is d hd m hm
  unfold gainN
  split
  · exact h1
  split
  · exact h2
  · exact hm
theorem part_lt {who sign what form : Str} {n c : Nat} (h : n < 512) : partN who sign what n form c < 8 := by
  unfold partN
  split
  · exact gain_lt (dg_lt h) (meant_lt h)
  · exact dg_lt h
def spDone (K : PySem.W.Frag) : Sp := fun vs H Q _ => ∃ (t : Addr) (who sign what form : Str) (n : Nat), vs = [.ref t, .int n, .str form] ∧ SqT K H t [.str who, .str sign, .str what] ∧ who ∈ allWho ∧ sign ∈ allSign ∧ what ∈ allw ∧ n < 512 ∧ ∀ H', Ex H H' → Q (.int (doneN who sign what n form : Nat)) H'
def D3f (f : Nat → Nat) : List (Key × V) := D3 (.int (f 117 : Nat)) (.int (f 103 : Nat)) (.int (f 111 : Nat))
theorem d3_at {f : Nat → Nat} {c : Nat} (h : c = 117 ∨ c = 103 ∨ c = 111) : valV (D3f f) (ky c) = some (.int (f c : Nat)) := by
  rcases h with rfl | rfl | rfl
  · exact d3_u _ _ _
  · exact d3_g _ _ _
  · exact d3_o _ _ _
theorem d3_put {f g : Nat → Nat} {c : Nat} {v : Nat} (h : c = 117 ∨ c = 103 ∨ c = 111) (e : ∀ x, g x = if x = c then v else f x) : putK (D3f f) (ky c) (.int (v : Nat)) = D3f g := by
  unfold D3f
  rw [e, e, e]
  rcases h with rfl | rfl | rfl
  · exact d3_pu _ _ _ _
  · exact d3_pg _ _ _ _
  · exact d3_po _ _ _ _
section
variable {K : PySem.W.Frag} {σ : L2.St} {H H' : Hp} {ta tb te tx tv v1 v2 v3 : TE} {t : TT} {x y z v : V} {r : R2} {D : Ends} {tz tu : TS}
theorem q_whenK {b : Bool} {σ' : L2.St} (h : EvT t σ H b) (h1 : b = true → ∀ H1, Ex H H1 → (∀ H2, Ex H1 H2 → tz D σ' H2) → tu { D with nx := tz D } σ H1) (h2 : b = false → σ = σ') (k : ∀ H1, Ex H H1 → tz D σ' H1) : tSeq (tIfS t tu tNext) tz D σ H :=
  q_when h (fun hb H1 e1 => h1 hb H1 e1 fun H2 e2 => k H2 (e1.trans e2)) fun hb H1 e1 => by rw [h2 hb]; exact k H1 e1
theorem ed_D3 (h1 : Ev v1 σ H x) (h2 : Ev v2 σ H y) (h3 : Ev v3 σ H z) : EvD (tDisp [(tC (.str "u"), v1), (tC (.str "g"), v2), (tC (.str "o"), v3)]) σ H (D3 x y z) := by
  have := ed_disp3 (s1 := "u") (s2 := "g") (s3 := "o") ev_c h1 ev_c h2 ev_c h3 (by decide +kernel) (by decide +kernel) (by decide +kernel)
  show EvD _ σ H [(.inr (sg 117), x), (.inr (sg 103), y), (.inr (sg 111), z)]
  rw [show sg 117 = ("u" : Str) from u_is.1.symm, show sg 103 = ("g" : Str) from u_is.2.1.symm, show sg 111 = ("o" : Str) from u_is.2.2.symm]
  exact this
end
def G3 (x y z : V) : List (Key × V) := [(.inr "+", x), (.inr "-", y), (.inr "=", z)]
theorem g3_at {sign : Str} {d m : Nat} (h : sign ∈ allSign) : valV (G3 (.int ((d ||| m : Nat))) (.int (d &&& (7 - m) : Nat)) (.int (m : Nat))) (.inr sign) = some (.int (gainN sign d m : Nat)) := by
  have n1 : (Sum.inr ("+" : Str) : Key) ≠ .inr ("-" : Str) ∧ (Sum.inr ("+" : Str) : Key) ≠ .inr ("=" : Str) ∧ (Sum.inr ("-" : Str) : Key) ≠ .inr ("=" : Str) ∧ ("-" : Str) ≠ "+" ∧ ("=" : Str) ≠ "+" ∧ ("=" : Str) ≠ "-" := by decide +kernel
  unfold gainN
  rcases List.mem_cons.mp h with rfl | h
  · rw [if_pos rfl]; exact valV_pos rfl
  rcases List.mem_cons.mp h with rfl | h
  · rw [if_neg n1.2.2.2.1, if_pos rfl]; exact (valV_neg n1.1).trans (valV_pos rfl)
  rcases List.mem_cons.mp h with rfl | h
  · rw [if_neg n1.2.2.2.2.1, if_neg n1.2.2.2.2.2]; exact (valV_neg n1.2.1).trans ((valV_neg n1.2.2.1).trans (valV_pos rfl))
  · cases h
/-- digits, asked by what -/
theorem d3_what {what : Str} {f : Nat → Nat} (h : what ∈ allw) : (∃ c, (c = 117 ∨ c = 103 ∨ c = 111) ∧ what = sg c) ∨ (what ∈ whats ∧ valV (D3f f) (.inr what) = none) := by
  rcases List.mem_cons.mp h with rfl | h
  · exact .inl ⟨117, .inl rfl, u_is.1⟩
  rcases List.mem_cons.mp h with rfl | h
  · exact .inl ⟨103, .inr (.inl rfl), u_is.2.1⟩
  rcases List.mem_cons.mp h with rfl | h
  · exact .inl ⟨111, .inr (.inr rfl), u_is.2.2⟩
  refine .inr ⟨h, d3_no (fun z => not_u.1 ?_) (fun z => not_u.2.1 ?_) (fun z => not_u.2.2.1 ?_)⟩
  · rw [u_is.1, show (⟨#[117]⟩ : Str) = what from Sum.inr.inj z]; exact h
  · rw [u_is.2.1, show (⟨#[103]⟩ : Str) = what from Sum.inr.inj z]; exact h
  · rw [u_is.2.2, show (⟨#[111]⟩ : Str) = what from Sum.inr.inj z]; exact h
theorem meant_dg {c n : Nat} {form : Str} (h : c = 117 ∨ c = 103 ∨ c = 111) : meantN (sg c) n form = dgN n c := by
  unfold meantN
  rw [show ("u" : Str) = sg 117 from u_is.1, show ("g" : Str) = sg 103 from u_is.2.1, show ("o" : Str) = sg 111 from u_is.2.2]
  rcases h with rfl | rfl | rfl
  · rw [if_pos rfl]
  · rw [if_neg (by decide +kernel), if_pos rfl]
  · rw [if_neg (by decide +kernel), if_neg (by decide +kernel), if_pos rfl]
theorem meant_wh {what form : Str} {n : Nat} (h : what ∈ whats) : meantN what n form = if moreB what n form = true then baseN what ||| 1 else baseN what := by
  unfold meantN
  rw [if_neg (fun z => not_u.1 (by rw [← z]; exact h)), if_neg (fun z => not_u.2.1 (by rw [← z]; exact h)), if_neg (fun z => not_u.2.2.1 (by rw [← z]; exact h))]
end KX
set_option Elab.async false
set_option linter.all false
set_option maxRecDepth 100000
set_option maxHeartbeats 4000000
namespace KX
open PySem PySem.Spec PyProof.Rows L2 Evl
local macro_rules | `(tactic| walk_at "ev") => `(tactic| repeat' (first | exact ev_c | exact ev_var rfl | exact rv_I0 | refine' rv_I ?_ | refine' rv_eq ?_ | refine' rv_ne ?_ | refine' ev_op ?_ ?_ ?_ | exact ea_nil | refine' ea_cons ?_ ?_ | refine' et_test ?_ | refine' et_B ?_ | refine' et_not ?_ | refine' ev_notV ?_))

section
variable {P : Program} {w : World} {K : PySem.W.Frag} {mg : Str → Option Value} {base : Heap} {a : Ads}
theorem ok_done (T : Txt w K mg a) : FnOk P w K mg base CX0 1 a.f__law_clause_done a.d__law_clause_done ["_law_told", "_law_number", "_law_form_so"] (spDone K) := by
  refine T.fn__law_clause_done.ok sc__law_clause_done (fun vs H Q E h => ?_) (fun cdv A outer s H vs Q E hr h => ?_)
  · obtain ⟨_, _, _, _, _, _, rfl, _⟩ := h
    rfl
  · obtain ⟨t, who, sign, what, form, n, rfl, ht, hwho, hsign, hwhat, hn, k⟩ := h
    have hu := hu_of hr
    refine ⟨_, (pss_cons (ps_asg (pv 0) (pg_tup rfl (pgs_cons (pg_name (i := 3) sc__law_clause_done.nd rfl (Or.inl rfl)) (pgs_cons (pg_name (i := 4) sc__law_clause_done.nd rfl (Or.inl rfl)) (pgs_cons (pg_name (i := 5) sc__law_clause_done.nd rfl (Or.inl rfl)) pgs_nil)))))
    (pss_cons (ps_set (i := 6) sc__law_clause_done.nd rfl (Or.inl rfl) (pe_disp (pps_cons pe_str (pe_op op_shr (pv 1) pe_int) (pps_cons pe_str (pe_op op_and (pe_op op_shr (pv 1) pe_int) pe_int) (pps_cons pe_str (pe_op op_and (pv 1) pe_int) pps_nil))) (by rfl) (by rfl) (fun z => by cases z) (by decide)))
    (pss_cons (ps_set (i := 7) sc__law_clause_done.nd rfl (Or.inl rfl) (pe_dget2 hu (pv 6) (pv 5) pe_int ⟨by rfl, by rfl, by rfl, by rfl⟩))
    (pss_cons (ps_if (pt_cmp (pc_dnotin hu (pv 5) (pv 6))) (pss_cons (ps_set (i := 7) sc__law_clause_done.nd rfl (Or.inl rfl) (pe_op op_add (pe_op op_add (pe_op op_mul pe_int (pe_callTy call_int1 (by rfl) T.b_int (by decide +kernel) (pa_cons (pe_cmpR op_in_sign pe_str (pv 5) (by rfl)) pa_nil))) (pe_op op_mul pe_int (pe_callTy call_int1 (by rfl) T.b_int (by decide +kernel) (pa_cons (pe_cmpR op_in_sign pe_str (pv 5) (by rfl)) pa_nil)))) (pe_callTy call_int1 (by rfl) T.b_int (by decide +kernel) (pa_cons (pe_cmpR op_in_sign pe_str (pv 5) (by rfl)) pa_nil))))
    (pss_one (ps_if (PW.pt (pw_and (pt_cmpR op_in_sign pe_str (pv 5) (by rfl)) (pw_and1 (PW.pt (pw_or (pt_cmpR op_eq (pv 2) pe_str (nomark _)) (pw_or1 (pt_cmpR op_gt (pe_op op_and (pv 1) pe_int) pe_int (nomark _)))))))) (pss_one (ps_set (i := 7) sc__law_clause_done.nd rfl (Or.inl rfl) (pe_op op_or (pv 7) pe_int))) pss_nil))) pss_nil)
    (pss_cons (ps_set (i := 8) sc__law_clause_done.nd rfl (Or.inl rfl) (pe_callTy call_dictD (by rfl) T.b_dict (by decide +kernel) (pa_cons (pv 6) pa_nil)))
    (pss_cons (ps_for PassesOwn.never rfl (pi_str (pv 3)) (pg_name (i := 9) sc__law_clause_done.nd rfl (Or.inl rfl)) (pss_cons (ps_set (i := 10) sc__law_clause_done.nd rfl (Or.inl rfl) (pe_disp (pps_cons pe_str (pe_op op_or (pe_dget hu (pv 6) (pv 9) (fun _ _ => rfl)) (pv 7)) (pps_cons pe_str (pe_op op_and (pe_dget hu (pv 6) (pv 9) (fun _ _ => rfl)) (pe_op op_sub pe_int (pv 7))) (pps_cons pe_str (pv 7) pps_nil))) (by rfl) (by rfl) (fun z => by cases z) (by decide)))
    (pss_one (ps_dput hu (pv 8) (pv 9) (pe_dget hu (pv 10) (pv 4) (fun _ _ => rfl)) rfl))))
    (pss_one (ps_ret (pe_op op_add (pe_op op_add (pe_op op_mul pe_int (pe_dget hu (pv 8) pe_str (fun _ _ => rfl))) (pe_op op_mul pe_int (pe_dget hu (pv 8) pe_str (fun _ _ => rfl)))) (pe_dget hu (pv 8) pe_str (fun _ _ => rfl))))))))))), ?_⟩
    obtain ⟨du, dg, d_o⟩ := dg_is n hn
    refine q_asgTV (ev_var rfl) ht rfl fun H1 e1 => ⟨_, _, rfl, _, _, rfl, _, _, rfl, rfl, ?_⟩
    refine q_asgD (kvs := D3f (dgN n)) (ed_D3 (ev_is (ev_op (ev_var rfl) ev_c (rv_I (by decide))) (congrArg V.int du)) (ev_is (ev_op (ev_op (ev_var rfl) ev_c (rv_I (by decide))) ev_c rv_I0) (congrArg V.int dg)) (ev_is (ev_op (ev_var rfl) ev_c rv_I0) (congrArg V.int d_o))) fun pd H2 hpd e2 hd2 => ?_
    refine q_asg (ev_dget2 (ev_var rfl) (ev_var rfl) ev_c hd2) fun H3 e3 => ?_
    have hd3 := e3 _ _ hd2
    have m8 := meant_lt (what := what) (form := form) hn
    refine q_whenK (b := !(valV (D3f (dgN n)) (.inr what)).isSome) (σ' := [some (.ref t), some (.int n), some (.str form), some (.str who), some (.str sign), some (.str what), some (.ref pd), some (.int (meantN what n form : Nat)), none, none, none]) (et_dnotin (ev_var rfl) (ev_var rfl) hd3) (fun hb H4 e4 k4 => ?_) (fun hb => ?_) (fun H4 e4 => ?_)
    · have hwh : what ∈ whats := by
        rcases d3_what (f := dgN n) hwhat with ⟨c, hc, rfl⟩ | ⟨h, _⟩
        · rw [show (Sum.inr (sg c) : Key) = ky c from rfl, d3_at hc] at hb; cases hb
        · exact h
      have has : ∀ (c : Nat) (s : Str) (σ : L2.St) (H : Hp), s = sg c → σ[5]? = some (some (.str what)) → Ev (tCB (fun xs H Q => (∃ i, xs = [V.int i] ∧ Q (.int i) H) ∨ ∃ k, xs = [V.bl k] ∧ Q (.int (if k then 1 else 0)) H) (tCons (tOp (fun x y H Q => ∃ (c : Nat) (z : Str), x = .str ⟨#[c]⟩ ∧ y = .str z ∧ Q (.bl (decide (c ∈ z.cps.toList))) H) (tC (.str s)) (tVar 5)) tNil)) σ H (.int (hasN what c : Nat)) := fun c s σ H hs h5 =>
        ev_is (ev_intB (ev_op (ev_is ev_c (congrArg V.str hs)) (ev_var h5) rv_inS)) (by unfold hasN; cases decide (c ∈ what.cps.toList) <;> rfl)
      refine q_asg (v := .int (baseN what : Nat)) (ev_is (ev_op (ev_op (ev_op ev_c (has 114 _ _ _ letters_are.1 rfl) (rv_I (.inl ⟨by decide, by decide⟩))) (ev_op ev_c (has 119 _ _ _ letters_are.2.1 rfl) (rv_I (.inl ⟨by decide, by decide⟩))) rv_I0) (has 120 _ _ _ letters_are.2.2 rfl) rv_I0) ?_) fun H5 e5 => ?_
      · congr 1
      refine s_ifAsg (b := moreB what n form) (v := .int (meantN what n form : Nat)) (et_and (et_test (ev_op (ev_is ev_c (congrArg V.str X_is)) (ev_var rfl) rv_inS)) fun _ => et_or (et_test (ev_op (ev_var rfl) ev_c (rv_eq rfl))) fun _ => et_test (ev_op (ev_op (ev_var rfl) ev_c rv_I0) ev_c rv_I0)) (fun hm => ?_) (fun hm => ?_) fun H6 e6 => k4 H6 (e5.trans e6)
      · refine ev_is (ev_op (ev_var rfl) ev_c rv_I0) ?_
        rw [meant_wh hwh, if_pos hm]
        exact congrArg V.int (gain_is _ (base_lt what) 1 (by decide)).1
      · rw [meant_wh hwh, if_neg (by rw [hm]; decide)]
        rfl
    · rcases d3_what (f := dgN n) hwhat with ⟨c, hc, rfl⟩ | ⟨_, h⟩
      · rw [show (Sum.inr (sg c) : Key) = ky c from rfl, d3_at hc, meant_dg hc]
        rfl
      · rw [h] at hb; cases hb
    · have hd4 := e4 _ _ hd3
      refine q_asgD (ed_copy (ev_var rfl) hd4) fun pl H5 hpl e5 hl5 => ?_
      have hd5 := e5 _ _ hd4
      have e04 : Ex H H4 := ((e1.trans e2).trans e3).trans e4
      have hplH : H pl = none := fresh_back e04 hpl
      have dl : pd ≠ pl := fun z => by rw [z, hpl] at hd4; cases hd4
      refine q_forS (ev_var rfl) (fun i σ' H' => ∃ lt gn, σ' = [some (.ref t), some (.int n), some (.str form), some (.str who), some (.str sign), some (.str what), some (.ref pd), some (.int (meantN what n form : Nat)), some (.ref pl), lt, gn] ∧ H' pd = some (.dK (D3f (dgN n))) ∧ H' pl = some (.dK (D3f fun c => if c ∈ who.cps.toList.take i then gainN sign (dgN n c) (meantN what n form) else dgN n c)) ∧ Ex H H')
        (fun H6 e6 => ⟨none, none, rfl, e6 _ _ hd5, e6 _ _ hl5, (e04.trans e5).trans e6⟩) (fun i c σ' H' hi p => ?_) (fun σ' H' p => ?_)
      · obtain ⟨lt, gn, rfl, h1, h2, h3⟩ := p
        have hc : c = 117 ∨ c = 103 ∨ c = 111 := (who_ok who hwho).1 c (List.mem_of_getElem? hi)
        obtain ⟨g1, g2, g3, g4⟩ := gain_is (dgN n c) (dg_lt hn) (meantN what n form) m8
        refine q_asgD (kvs := G3 (.int ((dgN n c ||| meantN what n form : Nat))) (.int (dgN n c &&& (7 - meantN what n form) : Nat)) (.int (meantN what n form : Nat))) (ed_disp3 ev_c (ev_is (ev_op (ev_dget (ev_var rfl) (ev_var rfl) h1 (d3_at hc)) (ev_var rfl) rv_I0) (congrArg V.int g1)) ev_c (ev_is (ev_op (ev_dget (ev_var rfl) (ev_var rfl) h1 (d3_at hc)) (ev_op ev_c (ev_var rfl) rv_I0) rv_I0) (congrArg V.int g2)) ev_c (ev_var rfl) (by decide +kernel) (by decide +kernel) (by decide +kernel)) fun pg H6 hpg e6 hg6 => ?_
        refine q_dput (v := .int (gainN sign (dgN n c) (meantN what n form) : Nat)) (ev_dget (ev_var rfl) (ev_var rfl) hg6 (g3_at hsign)) (ev_var rfl) (ev_var rfl) (e6 _ _ h2) (by show 3 < 1000; decide) fun H7 e7 => ?_
        refine ⟨_, _, rfl, by rw [upd_ne dl]; exact e7 _ _ (e6 _ _ h1), ?_, Ex.mut ((h3.trans e6).trans e7) hplH⟩
        rw [upd_same]
        refine congrArg (fun z => some (HO.dK z)) (d3_put hc fun x => ?_)
        rw [show who.cps.toList.take (i + 1) = who.cps.toList.take i ++ [c] by rw [List.take_succ, hi]; rfl]
        by_cases hx : x = c
        · subst hx
          rw [if_pos (List.mem_append_right _ (List.mem_singleton.mpr rfl)), if_pos rfl]
        · rw [if_neg hx]
          by_cases hy : x ∈ who.cps.toList.take i
          · rw [if_pos hy, if_pos (List.mem_append_left _ hy)]
          · rw [if_neg hy, if_neg (fun z => by
              rcases List.mem_append.mp z with z | z
              · exact hy z
              · exact hx (List.mem_singleton.mp z))]
      · obtain ⟨lt, gn, rfl, h1, h2, h3⟩ := p
        have h2 : H' pl = some (.dK (D3f fun c => partN who sign what n form c)) := by
          rw [show who.cps.toList.take who.cps.size = who.cps.toList from List.take_of_length_le (by simp)] at h2
          exact h2
        have get : ∀ (c : Nat) (s : Str) (hc : c = 117 ∨ c = 103 ∨ c = 111), s = sg c → Ev (tDGet (tVar 8) (tC (.str s))) [some (.ref t), some (.int n), some (.str form), some (.str who), some (.str sign), some (.str what), some (.ref pd), some (.int (meantN what n form : Nat)), some (.ref pl), lt, gn] H' (.int (partN who sign what n form c : Nat)) := fun c s hc hs =>
          ev_dget (ev_var rfl) (ev_is ev_c (congrArg V.str hs)) h2 (d3_at (f := fun c => partN who sign what n form c) hc)
        refine s_ret (v := .int (doneN who sign what n form : Nat)) (ev_is (ev_op (ev_op (ev_op ev_c (get 117 _ (.inl rfl) u_is.1) (rv_I (.inl ⟨by decide, by decide⟩))) (ev_op ev_c (get 103 _ (.inr (.inl rfl)) u_is.2.1) (rv_I (.inl ⟨by decide, by decide⟩))) rv_I0) (get 111 _ (.inr (.inr rfl)) u_is.2.2) rv_I0) ?_) fun H8 e8 => k H8 (h3.trans e8)
        congr 1
end
end KX
set_option Elab.async false
set_option linter.all false
set_option maxRecDepth 100000
set_option maxHeartbeats 4000000
namespace KX
open PySem PySem.Spec PyProof.Rows L2 Evl
local macro_rules | `(tactic| walk_at "ev") => `(tactic| repeat' (first | exact ev_c | exact ev_var rfl | exact rv_I0 | refine' rv_I ?_ | refine' rv_eq ?_ | refine' rv_ne ?_ | refine' ev_op ?_ ?_ ?_ | exact ea_nil | refine' ea_cons ?_ ?_ | refine' et_test ?_ | refine' et_B ?_ | refine' et_not ?_ | refine' ev_notV ?_))

def g1 (sign : Str) (b A : Nat) : Nat := if sign = "+" then b ||| A else if sign = "-" then b &&& (1 - A) else A
theorem or_sum : ∀ p0, p0 < 8 → ∀ p1, p1 < 8 → ∀ p2, p2 < 8 → Builtin.bitOr (Builtin.bitOr (bitsN p0 4 : Nat) (bitsN p1 2 : Nat)) (bitsN p2 1 : Nat) = ((bitsN p0 4 + bitsN p1 2 + bitsN p2 1 : Nat) : Int) := by
  have h : ((List.range 8).all fun (p0 : Nat) => (List.range 8).all fun (p1 : Nat) => (List.range 8).all fun (p2 : Nat) => decide (Builtin.bitOr (Builtin.bitOr (bitsN p0 4 : Nat) (bitsN p1 2 : Nat)) (bitsN p2 1 : Nat) = ((bitsN p0 4 + bitsN p1 2 + bitsN p2 1 : Nat) : Int))) = true := by decide +kernel
  exact fun p0 h0 p1 h1 p2 h2 => of_decide_eq_true (all_nat (all_nat (all_nat h p0 h0) p1 h1) p2 h2)
def pbN (mask : Nat) (sign : Str) (A : Bool) (p : Nat) : Nat := (pbI (mask : Nat) sign A p).toNat
theorem pb_bits : ∀ sign ∈ allSign, ∀ mask, mask < 8 → ∀ p, p < 8 → ∀ A : Bool, pbN mask sign A p / 4 % 2 = (if mask / 4 % 2 = 1 then g1 sign (p / 4 % 2) A.toNat else p / 4 % 2) ∧ pbN mask sign A p / 2 % 2 = (if mask / 2 % 2 = 1 then g1 sign (p / 2 % 2) A.toNat else p / 2 % 2) ∧ pbN mask sign A p % 2 = (if mask % 2 = 1 then g1 sign (p % 2) A.toNat else p % 2) := by
  have h : ∀ sign ∈ allSign, ((List.range 8).all fun (mask : Nat) => (List.range 8).all fun (p : Nat) => [true, false].all fun A => decide (pbN mask sign A p / 4 % 2 = (if mask / 4 % 2 = 1 then g1 sign (p / 4 % 2) A.toNat else p / 4 % 2) ∧ pbN mask sign A p / 2 % 2 = (if mask / 2 % 2 = 1 then g1 sign (p / 2 % 2) A.toNat else p / 2 % 2) ∧ pbN mask sign A p % 2 = (if mask % 2 = 1 then g1 sign (p % 2) A.toNat else p % 2))) = true := by decide +kernel
  intro sign hs mask hm p hp A
  exact of_decide_eq_true (List.all_eq_true.mp (all_nat (all_nat (h sign hs) mask hm) p hp) A (by cases A <;> simp))
theorem gain_bits : ∀ sign ∈ allSign, ∀ d, d < 8 → ∀ m, m < 8 → gainN sign d m = 4 * g1 sign (d / 4 % 2) (m / 4 % 2) + 2 * g1 sign (d / 2 % 2) (m / 2 % 2) + g1 sign (d % 2) (m % 2) := by
  have h : ∀ sign ∈ allSign, ((List.range 8).all fun (d : Nat) => (List.range 8).all fun (m : Nat) => decide (gainN sign d m = 4 * g1 sign (d / 4 % 2) (m / 4 % 2) + 2 * g1 sign (d / 2 % 2) (m / 2 % 2) + g1 sign (d % 2) (m % 2))) = true := by decide +kernel
  exact fun sign hs d hd m hm => of_decide_eq_true (all_nat (all_nat (h sign hs) d hd) m hm)
theorem mask_bits : ∀ who ∈ allWho, (maskN who / 4 % 2 = 1 ↔ 117 ∈ who.cps.toList) ∧ (maskN who / 2 % 2 = 1 ↔ 103 ∈ who.cps.toList) ∧ (maskN who % 2 = 1 ↔ 111 ∈ who.cps.toList) := by decide +kernel
theorem pat_bits {n w : Nat} : patN n w / 4 % 2 = n / w / 64 % 2 ∧ patN n w / 2 % 2 = n / w / 8 % 2 ∧ patN n w % 2 = n / w % 2 := by
  unfold patN
  have h1 := Nat.mod_lt (n / w / 64) (show 0 < 2 by decide)
  have h2 := Nat.mod_lt (n / w / 8) (show 0 < 2 by decide)
  have h3 := Nat.mod_lt (n / w) (show 0 < 2 by decide)
  generalize n / w / 64 % 2 = a at *
  generalize n / w / 8 % 2 = b at *
  generalize n / w % 2 = c at *
  omega
theorem dg_bits : ∀ n : Nat, n < 512 → (dgN n 117 / 4 % 2 = n / 4 / 64 % 2 ∧ dgN n 117 / 2 % 2 = n / 2 / 64 % 2 ∧ dgN n 117 % 2 = n / 1 / 64 % 2) ∧ (dgN n 103 / 4 % 2 = n / 4 / 8 % 2 ∧ dgN n 103 / 2 % 2 = n / 2 / 8 % 2 ∧ dgN n 103 % 2 = n / 1 / 8 % 2) ∧ (dgN n 111 / 4 % 2 = n / 4 % 2 ∧ dgN n 111 / 2 % 2 = n / 2 % 2 ∧ dgN n 111 % 2 = n / 1 % 2) ∧ dgN n 117 = 4 * (n / 4 / 64 % 2) + 2 * (n / 2 / 64 % 2) + n / 1 / 64 % 2 ∧ dgN n 103 = 4 * (n / 4 / 8 % 2) + 2 * (n / 2 / 8 % 2) + n / 1 / 8 % 2 ∧ dgN n 111 = 4 * (n / 4 % 2) + 2 * (n / 2 % 2) + n / 1 % 2 := by
  have h : ((List.range 512).all fun (n : Nat) => decide ((dgN n 117 / 4 % 2 = n / 4 / 64 % 2 ∧ dgN n 117 / 2 % 2 = n / 2 / 64 % 2 ∧ dgN n 117 % 2 = n / 1 / 64 % 2) ∧ (dgN n 103 / 4 % 2 = n / 4 / 8 % 2 ∧ dgN n 103 / 2 % 2 = n / 2 / 8 % 2 ∧ dgN n 103 % 2 = n / 1 / 8 % 2) ∧ (dgN n 111 / 4 % 2 = n / 4 % 2 ∧ dgN n 111 / 2 % 2 = n / 2 % 2 ∧ dgN n 111 % 2 = n / 1 % 2) ∧ dgN n 117 = 4 * (n / 4 / 64 % 2) + 2 * (n / 2 / 64 % 2) + n / 1 / 64 % 2 ∧ dgN n 103 = 4 * (n / 4 / 8 % 2) + 2 * (n / 2 / 8 % 2) + n / 1 / 8 % 2 ∧ dgN n 111 = 4 * (n / 4 % 2) + 2 * (n / 2 % 2) + n / 1 % 2)) = true := by decide +kernel
  exact fun n hn => of_decide_eq_true (all_nat h n hn)
theorem cls_bit : ∀ p : Nat, p < 8 → (!decide (V.int (Builtin.bitAnd (p : Nat) 4) = V.int 0)).toNat = p / 4 % 2 ∧ (!decide (V.int (Builtin.bitAnd (p : Nat) 2) = V.int 0)).toNat = p / 2 % 2 ∧ (!decide (V.int (Builtin.bitAnd (p : Nat) 1) = V.int 0)).toNat = p % 2 := by
  have h : ((List.range 8).all fun (p : Nat) => decide ((!decide (V.int (Builtin.bitAnd (p : Nat) 4) = V.int 0)).toNat = p / 4 % 2 ∧ (!decide (V.int (Builtin.bitAnd (p : Nat) 2) = V.int 0)).toNat = p / 2 % 2 ∧ (!decide (V.int (Builtin.bitAnd (p : Nat) 1) = V.int 0)).toNat = p % 2)) = true := by decide +kernel
  exact fun p hp => of_decide_eq_true (all_nat h p hp)
theorem any_x : ∀ n : Nat, n < 512 → (!decide (V.int (patN n 1 : Nat) = V.int 0)) = decide ((0 : Int) < Builtin.bitAnd (n : Nat) 73) := by
  have h : ((List.range 512).all fun (n : Nat) => decide ((!decide (V.int (patN n 1 : Nat) = V.int 0)) = decide ((0 : Int) < Builtin.bitAnd (n : Nat) 73))) = true := by decide +kernel
  exact fun n hn => of_decide_eq_true (all_nat h n hn)
theorem or1_bits : ∀ b, b < 8 → (b ||| 1) / 4 % 2 = b / 4 % 2 ∧ (b ||| 1) / 2 % 2 = b / 2 % 2 ∧ (b ||| 1) % 2 = 1 := by
  have h : ((List.range 8).all fun (b : Nat) => decide ((b ||| 1) / 4 % 2 = b / 4 % 2 ∧ (b ||| 1) / 2 % 2 = b / 2 % 2 ∧ (b ||| 1) % 2 = 1)) = true := by decide +kernel
  exact fun b hb => of_decide_eq_true (all_nat h b hb)
theorem base_bits (what : Str) : baseN what / 4 % 2 = hasN what 114 ∧ baseN what / 2 % 2 = hasN what 119 ∧ baseN what % 2 = hasN what 120 := by
  have := has_le what 114
  have := has_le what 119
  have := has_le what 120
  unfold baseN
  omega
theorem no_x : decide (V.str (sg 114) = V.str "x") = false ∧ decide (V.str (sg 119) = V.str "x") = false ∧ decide (V.str (sg 120) = V.str "x") = true := by decide +kernel
theorem meantB_wh {what form : Str} {c p : Nat} (hw : what ∈ whats) : meantB what c p form = if c ∈ what.cps.toList then true else (decide (V.str (sg c) = V.str "x") && (decide (88 ∈ what.cps.toList) && (decide (V.str form = V.str "folder") || !decide (V.int (p : Nat) = V.int 0)))) := by
  unfold meantB
  rw [if_neg (fun z => not_u.1 (by rw [← z]; exact hw)), if_neg (fun z => not_u.2.1 (by rw [← z]; exact hw)), if_neg (fun z => not_u.2.2.1 (by rw [← z]; exact hw))]
/-- the bits of what is meant -/
theorem meant_bits {what form f0 f1 : Str} {n : Nat} (hw : what ∈ allw) (hn : n < 512) : meantN what n form / 4 % 2 = (meantB what 114 (patN n 4) f0).toNat ∧ meantN what n form / 2 % 2 = (meantB what 119 (patN n 2) f1).toNat ∧ meantN what n form % 2 = (meantB what 120 (patN n 1) form).toNat := by
  have c4 := cls_bit _ (pat_lt 4 (by decide) n hn)
  have c2 := cls_bit _ (pat_lt 2 (by decide) n hn)
  have c1 := cls_bit _ (pat_lt 1 (by decide) n hn)
  obtain ⟨p4, p5, p6⟩ := pat_bits (n := n) (w := 4)
  obtain ⟨q4, q5, q6⟩ := pat_bits (n := n) (w := 2)
  obtain ⟨r4, r5, r6⟩ := pat_bits (n := n) (w := 1)
  rcases List.mem_cons.mp hw with rfl | hw
  · unfold meantN meantB
    rw [if_pos rfl, if_pos rfl, if_pos rfl, if_pos rfl, c4.1, c2.1, c1.1, p4, q4, r4]
    exact (dg_bits n hn).1
  rcases List.mem_cons.mp hw with rfl | hw
  · unfold meantN meantB
    rw [if_neg not_u.2.2.2.1, if_neg not_u.2.2.2.1, if_neg not_u.2.2.2.1, if_neg not_u.2.2.2.1, if_pos rfl, if_pos rfl, if_pos rfl, if_pos rfl, c4.2.1, c2.2.1, c1.2.1, p5, q5, r5]
    exact (dg_bits n hn).2.1
  rcases List.mem_cons.mp hw with rfl | hw
  · unfold meantN meantB
    rw [if_neg not_u.2.2.2.2.1, if_neg not_u.2.2.2.2.1, if_neg not_u.2.2.2.2.1, if_neg not_u.2.2.2.2.1, if_neg not_u.2.2.2.2.2, if_neg not_u.2.2.2.2.2, if_neg not_u.2.2.2.2.2, if_neg not_u.2.2.2.2.2, if_pos rfl, if_pos rfl, if_pos rfl, if_pos rfl, c4.2.2, c2.2.2, c1.2.2, p6, q6, r6]
    exact (dg_bits n hn).2.2.1
  obtain ⟨b4, b5, b6⟩ := base_bits what
  obtain ⟨o4, o5, o6⟩ := or1_bits _ (base_lt what)
  rw [meant_wh hw, meantB_wh hw, meantB_wh hw, meantB_wh hw, no_x.1, no_x.2.1, no_x.2.2, any_x n hn]
  have h0 : (if 114 ∈ what.cps.toList then true else (false && (decide (88 ∈ what.cps.toList) && (decide (V.str f0 = V.str "folder") || !decide (V.int (patN n 4 : Nat) = V.int 0))))).toNat = hasN what 114 := by
    unfold hasN
    by_cases h : 114 ∈ what.cps.toList
    · rw [if_pos h, if_pos (decide_eq_true h)] <;> rfl
    · rw [if_neg h, if_neg (by rw [decide_eq_false h]; decide)] <;> rfl
  have h1 : (if 119 ∈ what.cps.toList then true else (false && (decide (88 ∈ what.cps.toList) && (decide (V.str f1 = V.str "folder") || !decide (V.int (patN n 2 : Nat) = V.int 0))))).toNat = hasN what 119 := by
    unfold hasN
    by_cases h : 119 ∈ what.cps.toList
    · rw [if_pos h, if_pos (decide_eq_true h)] <;> rfl
    · rw [if_neg h, if_neg (by rw [decide_eq_false h]; decide)] <;> rfl
  rw [h0, h1]
  cases hm : moreB what n form with
  | true =>
    rw [if_pos rfl]
    refine ⟨by omega, by omega, ?_⟩
    rw [o6, show (decide (88 ∈ what.cps.toList) && (decide (V.str form = V.str "folder") || decide ((0 : Int) < Builtin.bitAnd (n : Nat) 73))) = true from hm]
    split <;> rfl
  | false =>
    rw [if_neg (by decide)]
    refine ⟨by omega, by omega, ?_⟩
    rw [b6, show (decide (88 ∈ what.cps.toList) && (decide (V.str form = V.str "folder") || decide ((0 : Int) < Builtin.bitAnd (n : Nat) 73))) = false from hm]
    unfold hasN
    by_cases h : 120 ∈ what.cps.toList
    · rw [if_pos h, if_pos (decide_eq_true h)] <;> rfl
    · rw [if_neg h, if_neg (by rw [decide_eq_false h]; decide)] <;> rfl
theorem form_is : ∀ form ∈ forms, (if decide (V.str form = V.str "file") then "file" else "folder") = form := by decide +kernel
theorem done_is_res {who sign what form : Str} {n : Nat} (hwho : who ∈ allWho) (hsign : sign ∈ allSign) (hwhat : what ∈ allw) (hform : form ∈ forms) (hn : n < 512) : resN who sign what n form = doneN who sign what n form := by
  obtain ⟨m4, m2, m1⟩ := meant_bits (f0 := "file") (f1 := "file") (form := form) hwhat hn
  have hm8 := meant_lt (what := what) (form := form) hn
  have hmask : maskN who < 8 := by have := (who_ok who hwho).2.1; omega
  obtain ⟨k4, k2, k1⟩ := mask_bits who hwho
  obtain ⟨p4, p5, p6⟩ := pat_bits (n := n) (w := 4)
  obtain ⟨q4, q5, q6⟩ := pat_bits (n := n) (w := 2)
  obtain ⟨r4, r5, r6⟩ := pat_bits (n := n) (w := 1)
  obtain ⟨a4, a2, a1⟩ := pb_bits sign hsign _ hmask _ (pat_lt 4 (by decide) n hn) (meantB what 114 (patN n 4) "file")
  obtain ⟨b4, b2, b1⟩ := pb_bits sign hsign _ hmask _ (pat_lt 2 (by decide) n hn) (meantB what 119 (patN n 2) "file")
  obtain ⟨c4, c2, c1⟩ := pb_bits sign hsign _ hmask _ (pat_lt 1 (by decide) n hn) (meantB what 120 (patN n 1) form)
  have e0 : tabF who sign what 0 (patN n 4) = pbN (maskN who) sign (meantB what 114 (patN n 4) "file") (patN n 4) := rfl
  have e1 : tabF who sign what 1 (patN n 2) = pbN (maskN who) sign (meantB what 119 (patN n 2) "file") (patN n 2) := rfl
  have e2 : (if decide (V.str form = V.str "file") then tabF who sign what 2 else tabF who sign what 3) (patN n 1) = pbN (maskN who) sign (meantB what 120 (patN n 1) form) (patN n 1) := by
    have hf := form_is form hform
    cases hd : decide (V.str form = V.str "file") with
    | true => rw [hd] at hf; have hf : "file" = form := hf; rw [← hf]; rfl
    | false => rw [hd] at hf; have hf : "folder" = form := hf; rw [← hf]; rfl
  have lq : Low (if decide (V.str form = V.str "file") then tabF who sign what 2 else tabF who sign what 3) := by
    cases decide (V.str form = V.str "file")
    · exact tab_low hwho 3
    · exact tab_low hwho 2
  have hs := or_sum _ (tab_low (sign := sign) (what := what) hwho 0 _ (pat_lt 4 (by decide) n hn)) _ (tab_low (sign := sign) (what := what) hwho 1 _ (pat_lt 2 (by decide) n hn)) _ (lq _ (pat_lt 1 (by decide) n hn))
  have hr : resN who sign what n form = bitsN (tabF who sign what 0 (patN n 4)) 4 + bitsN (tabF who sign what 1 (patN n 2)) 2 + bitsN ((if decide (V.str form = V.str "file") then tabF who sign what 2 else tabF who sign what 3) (patN n 1)) 1 := by
    unfold resN numI
    rw [hs]
    rfl
  rw [hr, e0, e1, e2]
  unfold bitsN doneN
  rw [a4, a2, a1, b4, b2, b1, c4, c2, c1, p4, p5, p6, q4, q5, q6, r4, r5, r6]
  unfold partN
  rw [gain_bits sign hsign _ (dg_lt hn) _ hm8, gain_bits sign hsign _ (dg_lt hn) _ hm8, gain_bits sign hsign _ (dg_lt hn) _ hm8, m4, m2, m1]
  generalize (meantB what 114 (patN n 4) "file").toNat = A
  generalize (meantB what 119 (patN n 2) "file").toNat = B
  generalize (meantB what 120 (patN n 1) form).toNat = C
  obtain ⟨u4, v4, w4, ud, vd, wd⟩ := dg_bits n hn
  rw [u4.1, u4.2.1, u4.2.2, v4.1, v4.2.1, v4.2.2, w4.1, w4.2.1, w4.2.2, ud, vd, wd]
  clear u4 v4 w4 ud vd wd hr hs a4 a2 a1 b4 b2 b1 c4 c2 c1 e0 e1 e2 p4 p5 p6 q4 q5 q6 r4 r5 r6 lq m4 m2 m1 hm8
  generalize n / 4 / 64 % 2 = x1
  generalize n / 4 / 8 % 2 = x2
  generalize n / 4 % 2 = x3
  generalize n / 2 / 64 % 2 = x4
  generalize n / 2 / 8 % 2 = x5
  generalize n / 2 % 2 = x6
  generalize n / 1 / 64 % 2 = x7
  generalize n / 1 / 8 % 2 = x8
  generalize n / 1 % 2 = x9
  by_cases hu : 117 ∈ who.cps.toList <;> by_cases hg : 103 ∈ who.cps.toList <;> by_cases ho : 111 ∈ who.cps.toList <;>
    simp only [k4, k2, k1, hu, hg, ho, if_true, if_false] <;> omega
end KX
set_option Elab.async false
set_option linter.all false
set_option maxRecDepth 100000
set_option maxHeartbeats 4000000
namespace KX
open PySem PySem.Spec PyProof.Rows L2 Evl
local macro_rules | `(tactic| walk_at "ev") => `(tactic| repeat' (first | exact ev_c | exact ev_var rfl | exact rv_I0 | refine' rv_I ?_ | refine' rv_eq ?_ | refine' rv_ne ?_ | refine' ev_op ?_ ?_ ?_ | exact ea_nil | refine' ea_cons ?_ ?_ | refine' et_test ?_ | refine' et_B ?_ | refine' et_not ?_ | refine' ev_notV ?_))

open PySem
/-! a text and a tuple, side by side -/
theorem five {p : Addr → Prop} {c1 c2 c3 c4 c5 : Addr} (a1 : p c1) (a2 : p c2) (a3 : p c3) (a4 : p c4) (a5 : p c5) : ∀ c ∈ [c1, c2, c3, c4, c5], p c :=
  List.forall_mem_cons.mpr ⟨a1, List.forall_mem_cons.mpr ⟨a2, List.forall_mem_cons.mpr ⟨a3, List.forall_mem_cons.mpr ⟨a4, List.forall_mem_cons.mpr ⟨a5, List.forall_mem_nil _⟩⟩⟩⟩⟩
theorem off5 {c c1 c2 c3 c4 c5 : Addr} (h : c ∉ [c1, c2, c3, c4, c5]) : c ≠ c1 ∧ c ≠ c3 ∧ c ≠ c4 ∧ c ≠ c5 := by
  simp only [List.mem_cons, List.not_mem_nil, or_false, not_or] at h
  exact ⟨h.1, h.2.2.1, h.2.2.2⟩
/-- where the two iterators, their pair and the zip stand, i turns on -/
structure SideAt (x : Str) (t : Tok) (b z TI TO i1 i2 : Addr) (i : Nat) (h : Heap) : Prop where
  zip : IsZip h z TI TO .none
  its : IsTupOf2 h TI (.ref i1) (.ref i2)
  out : ∃ v1 v2, IsTupOf2 h TO v1 v2
  txt : h.IsStrIter i1 (strIterType x) x t i
  tup : h.IsTupleIter i2 b i
section
variable {x : Str} {t : Tok} {b z TI TO i1 i2 : Addr} {i : Nat} {h h' : Heap}
theorem SideAt.obj (q : SideAt x t b z TI TO i1 i2 i h) : ∀ c ∈ [z, TI, TO, i1, i2], ∃ o, h.get? c = some o ∧ ∀ v, o.data ≠ .cell v := by
  obtain ⟨v1, v2, ho⟩ := q.out
  obtain ⟨p1, g1, _, n1⟩ := q.txt
  obtain ⟨p2, g2, _, n2⟩ := q.tup
  exact five ⟨_, q.zip, nofun⟩ ⟨_, q.its, nofun⟩ ⟨_, ho, nofun⟩ ⟨p1, g1, by rw [n1]; exact nofun⟩ ⟨p2, g2, by rw [n2]; exact nofun⟩
theorem SideAt.lt (q : SideAt x t b z TI TO i1 i2 i h) : ∀ c ∈ [z, TI, TO, i1, i2], c < h.objs.size := fun c m => let ⟨_, e, _⟩ := q.obj c m; Heap.lt_size e
theorem SideAt.keep (q : SideAt x t b z TI TO i1 i2 i h) (k : ∀ c ∈ [z, TI, TO, i1, i2], ∀ o, h.get? c = some o → h'.get? c = some o) : SideAt x t b z TI TO i1 i2 i h' := by
  obtain ⟨v1, v2, ho⟩ := q.out
  obtain ⟨p1, g1, n1⟩ := q.txt
  refine ⟨k z ?_ _ q.zip, k TI ?_ _ q.its, ⟨v1, v2, k TO ?_ _ ho⟩, ⟨p1, k i1 ?_ _ g1, n1⟩, q.tup.at fun o e => k i2 ?_ o e⟩ <;> simp
end
/-- what a walk over both gives: pairs of a sign and an item -/
def ItzS (K : PySem.W.Frag) (x : Str) (b : Addr) : It :=
  ⟨fun i H => ∃ (ys : List V) (c : Nat) (y : V), SqT K H b ys ∧ x.cps[i]? = some c ∧ ys[i]? = some y,
    fun i H v H' => ∃ (T : Addr) (c : Nat) (y : V), v = .ref T ∧ H T = none ∧ H' = upd H T (.tup [.str ⟨#[c]⟩, y]) ∧ x.cps[i]? = some c ∧ ∀ ys, SqT K H b ys → ys[i]? = some y,
    fun i H => ∃ ys : List V, SqT K H b ys ∧ ys.length = x.cps.size ∧ i = ys.length⟩
theorem turn_zipS {P : Program} {w : World} {K : PySem.W.Frag} {elts : List Expr} {kk : Nat} {tpos : Pos} {x : Str} {t : Tok} {b z TI TO i1 i2 : Addr} (S : ZipSep2 z TI TO i1 i2 [i1] [i2, b]) (hb : b ≠ i2) :
    Turn P w K (.Tuple elts kk tpos) (ItzS K x b) [z, TI, TO, i1, i2] z (SideAt x t b z TI TO i1 i2) where
  mem := List.mem_cons_self ..
  obj := fun _ _ q => q.obj
  keep := fun _ _ _ q k => q.keep k
  self := fun _ _ _ _ _ q k => wpAny_pyIter_zip q.zip k
  item := by
    intro X e1 e2 e3 calm i pins s σ H E I free st more
    subst e1 e2 e3
    obtain ⟨ys, c, y, seq, hx, hy⟩ := more
    obtain ⟨us, ru, isT, _⟩ := I.tuple seq
    obtain ⟨u, hu, ry⟩ := ru.get hy
    have quiet : X.A.in1.handled = none := I.ok.hd calm
    have in1 : i < x.cps.size := (Array.getElem?_eq_some_iff.mp hx).1
    have in2 : i < us.toArray.size := by simpa using (List.getElem?_eq_some_iff.mp hu).1
    obtain ⟨v1, v2, out⟩ := st.out
    refine wpAny_pyNext_zipD2_item S (Draws.text quiet i1 x t) (Draws.tuple quiet i2 b hb us.toArray) st.zip st.its out st.txt ⟨st.tup, isT⟩ in1 in2 fun w1 w2 g tk ⟨c1, t1, hc1, ew⟩ hw2 gz gO g1 g2 gT _ rest => ?_
    subst ew
    obtain rfl : c = c1 := Option.some.inj (hx.symm.trans hc1)
    obtain rfl : u = w2 := Option.some.inj ((show us.toArray[i]? = some u by simpa using hu).symm.trans hw2)
    have zlt := st.lt z (List.mem_cons_self ..)
    refine ⟨_, rfl, wpAny_letOwnedTupleGo_zip (s := { s with heap := g, toks := tk }) gz fun g' gz' but => ?_⟩
    have gT' := (but.2 _ (Nat.ne_of_gt zlt)).trans gT
    have pair : ObjOk X.prog X.w (upd H s.heap.objs.size (.tup [.str ⟨#[c]⟩, y])) g' s.heap.objs.size (.tup [.str ⟨#[c]⟩, y]) := ⟨by show 2 ≤ sizeLine; decide, [.str ⟨#[c]⟩ t1, u], .cons ⟨t1, rfl⟩ (.cons ry .nil), ⟨_, gT', rfl, _, rfl⟩⟩
    have far : ∀ c' o, c' ∉ [z, TI, TO, i1, i2] → s.heap.get? c' = some o → g'.get? c' = some o := fun c' o n e => by
      obtain ⟨n1, n2, n3, n4⟩ := off5 n
      exact (but.2 c' n1).trans (rest c' o n1 n2 n3 n4 e)
    refine ⟨.ref s.heap.objs.size, _, I.turnedNew (t' := tk) (ch := [z, TI, TO, i1, i2]) far free (Nat.le_refl _) pair, rfl, ⟨_, c, y, rfl, I.hok.fresh (Nat.le_refl _), rfl, hx, fun l hl => by rw [I.tuple_inj hl seq]; exact hy⟩, ?_, fun c' m => ?_⟩
    · obtain ⟨p1, q1, r1⟩ := g1
      exact ⟨gz', (but.2 _ S.TIz).trans (rest _ _ S.TIz S.TITO S.TIi1 S.TIi2 st.its), ⟨_, _, (but.2 _ S.TOz).trans gO⟩, ⟨p1, (but.2 _ S.zi1.symm).trans q1, r1⟩, g2.1.at fun o q => (but.2 _ S.zi2.symm).trans q⟩
    · exact (upd_ne (Nat.ne_of_lt (st.lt c' m))).trans (free c' m).1
  done := by
    intro X e1 e2 e3 calm i pins s σ H E I free st over
    subst e1 e2 e3
    obtain ⟨ys, seq, len, rfl⟩ := over
    obtain ⟨us, ru, isT, _⟩ := I.tuple seq
    have quiet : X.A.in1.handled = none := I.ok.hd calm
    have size : us.toArray.size = ys.length := by rw [ru.length]; simp
    obtain ⟨v1, v2, out⟩ := st.out
    exact wpAny_pyNext_zipD2_end S (Draws.text quiet i1 x t) (Draws.tuple quiet i2 b hb us.toArray) st.zip st.its out st.txt ⟨st.tup, isT⟩ (Nat.le_of_eq len) (Nat.le_of_eq size.symm) (.inl len) fun g tk rest => ⟨rfl, I.turnedL (t' := tk) (ch := [z, TI, TO, i1, i2]) (fun c o n e => by
      obtain ⟨n1, n2, n3, n4⟩ := off5 n
      exact rest c o n1 n2 n3 n4 e) free⟩
def iZipS (K : PySem.W.Frag) (ta : TA) : TI := fun σ H R => ta σ H fun vs H1 => ∃ x b ys, vs = [.str x, .ref b] ∧ SqT K H1 b ys ∧ R (ItzS K x b) H1
theorem pi_zipS {X : Cx} {e d : Expr} {ta : TA} {p pos tpos : Pos} {elts : List Expr} {kk : Nat} (hg : Gl X "zip") (hm : X.mg "zip" = none) (ha : PA X [e, d] ta) (flat : starEach [e, d] X.env = (false, eval e X.env) :: starEach [d] X.env := by rfl)
    (plain : (backTo pos (starEach [d] X.env)).any (·.1) = false := by rfl) : PI X (.Tuple elts kk tpos) (.Call (.Name "zip" p) [e, d] [] pos) (iZipS X.K ta) where
  run := fun pins s σ H R I start => by
    refine Call_ (ld_blt I hg hm PyProof.Rows.boot_zip (PyProof.Rows.callWith_type1 (thn (ha.run pos pins s σ H _ I start) fun us s1 ⟨vs, H1, J, r, x, b, ys, ev, seq, go⟩ => ?_) flat plain))
    subst ev
    cases r with | cons q1 q2 => ?_
    cases q2 with | cons q2 q3 => ?_
    cases q3
    obtain ⟨t, rfl⟩ := q1
    cases q2
    obtain ⟨ws, _, isT, _⟩ := J.tuple seq
    have bl : b < s1.heap.objs.size := let ⟨_, ho, _⟩ := id isT; Heap.lt_size ho
    have young : ∀ j, FpOk X pins H1 (s1.heap.objs.size + j) := fun j => J.fpOk (Nat.le_add_right ..) (J.hok.fresh (Nat.le_add_right ..))
    have isT' : s1.heap.IsTuple b ws.toArray := isT
    refine zip_begins2 (begins_text x t) (begins_tuple b ws.toArray) trivial isT' fun g gz gI gO g1 g2 _ rest => wpAny_pyIter_zip gz ?_
    exact ⟨s1.heap.objs.size + 4, _, SideAt x t b (s1.heap.objs.size + 4) (s1.heap.objs.size + 2) (s1.heap.objs.size + 3) s1.heap.objs.size (s1.heap.objs.size + 1), ItzS X.K x b, H1, rfl, J.kept (t' := s1.toks) rest, turn_zipS (t := t) (zip_sep2 nofun fun c m => List.mem_singleton.mp m ▸ bl) (Nat.ne_of_lt (Nat.lt_succ_of_lt bl)), ⟨gz, gI, ⟨_, _, gO⟩, ⟨_, g1, rfl, rfl⟩, ⟨_, g2, rfl, rfl⟩⟩, five (young 4) (young 2) (young 3) (young 0) (young 1), go⟩
end KX
set_option Elab.async false
set_option linter.all false
set_option maxRecDepth 100000
set_option maxHeartbeats 4000000
namespace KX
open PySem PySem.Spec PyProof.Rows L2 Evl
local macro_rules | `(tactic| walk_at "ev") => `(tactic| repeat' (first | exact ev_c | exact ev_var rfl | exact rv_I0 | refine' rv_I ?_ | refine' rv_eq ?_ | refine' rv_ne ?_ | refine' ev_op ?_ ?_ ?_ | exact ea_nil | refine' ea_cons ?_ ?_ | refine' et_test ?_ | refine' et_B ?_ | refine' et_not ?_ | refine' ev_notV ?_))

open PySem
theorem pt_truthE {X : Cx} {K : PySem.W.Frag} {e : Expr} {ta : TE} (ha : PE X e ta) (he : ∀ whole, isTrue e X.env whole = (do let v ← whole; standAt e.pos; holding [v] (truthy v))) (hK : X.K = K := by rfl) :
    PT X e (fun σ H Q => ta σ H fun x H' => ∃ k, TruV K x H' k ∧ Q k H') := by
  subst hK
  exact pt_truth ha he
section
variable {K : PySem.W.Frag} {σ : L2.St} {H H' : Hp} {ta tb te tx tv : TE} {t u : TT} {x y z v : V} {r : R2}
theorem et_truth {i : Int} (h : Ev te σ H (.int i)) : EvT (fun σ H Q => te σ H fun x H' => ∃ k, TruV K x H' k ∧ Q k H') σ H (i != 0) := fun H1 e Q q => h H1 e _ fun H2 e2 => ⟨_, rfl, q H2 e2⟩
/-- a comprehension over a text and a tuple, side by side -/
theorem el_lcZ {s : Str} {b : Addr} {ys : List V} {ta : TA} {i1 i2 : Nat} {vs : List Nat} (v : Nat → V) (h : EvA ta σ H [.str s, .ref b]) (hb : SqT K H b ys) (hl : ys.length = s.cps.size) (hz : s.cps.size ≤ 40000)
    (hw : ∀ x y, wipe (((wipe σ vs).set i1 (some x)).set i2 (some y)) vs = wipe σ vs)
    (he : ∀ (i c : Nat) (y : V) H1, Ex H H1 → s.cps[i]? = some c → ys[i]? = some y → Ev te (((wipe σ vs).set i1 (some (.str ⟨#[c]⟩))).set i2 (some y)) H1 (v i)) :
    EvL (tLc (iZipS K ta) (gTup K 2 (gCons (gName i1) (gCons (gName i2) gNil))) tYes te vs) σ H (given s.cps.size (fun _ => true) v) := fun H0 e Q q => h H0 e _ fun H1 e1 => ⟨s, b, ys, rfl, ex_t (e.trans e1) hb, fun Dl hD =>
  ⟨fun i m H' => m = s.cps.size - i ∧ i ≤ s.cps.size ∧ Cw H1 (fun _ => true) v Dl i H', ⟨s.cps.size, by simp, Nat.zero_le _, hD, Ex.new hD, upd_same⟩, by
    rintro i m H' ⟨rfl, hi, p⟩
    have hb' : SqT K H' b ys := ex_t ((e.trans e1).trans p.2.1) hb
    by_cases hlt : i < s.cps.size
    · refine .inr ⟨⟨ys, s.cps[i], ys[i], hb', by simp [hlt], by simp [hl, hlt]⟩, Cw H1 (fun _ => true) v Dl (i + 1), fun H2 p' => ⟨s.cps.size - (i + 1), by omega, rfl, hlt, p'⟩, ?_⟩
      rintro x H2 ⟨T, c, y, rfl, hT, rfl, hc, hy⟩
      have hy' := hy ys hb'
      have e2 : Ex H' (upd H' T (.tup [.str ⟨#[c]⟩, y])) := Ex.new hT
      have p' : Cw H1 (fun _ => true) v Dl i (upd H' T (.tup [.str ⟨#[c]⟩, y])) := ⟨p.1, p.2.1.trans e2, e2 _ _ p.2.2⟩
      exact ⟨T, _, rfl, st_of upd_same, rfl, _, _, rfl, _, _, rfl, rfl, hw _ _, cw_turn p' (by omega) et_yes (fun _ => he i c y H1 (e.trans e1) hc hy')⟩
    · have e2 : i = s.cps.size := by omega
      subst e2
      exact .inl ⟨⟨ys, hb', hl, hl.symm⟩, q Dl H' (fresh_back e1 p.1) (e1.trans p.2.1) p.2.2⟩⟩⟩
end
def nineS : Str := "rwxrwxrwx"
def nineB : List Int := [256, 128, 64, 32, 16, 8, 4, 2, 1]
def signAt (n i : Nat) : Str := if (Builtin.bitAnd (n : Nat) (nineB.getD i 0) != 0) = true then ⟨#[nineS.cps.toList.getD i 0]⟩ else "-"
def shown (n : Nat) : Str := Txt.join "" ((List.range 9).map (signAt n))
def spStr (a : Ads) : Sp := fun vs H Q _ => ∃ (p : Addr) (n : Nat), vs = [.ref p] ∧ ModeAt a H p n ∧ n < 512 ∧ ∀ H', Ex H H' → Q (.str (shown n)) H'
theorem dash1 : ("-" : Str).length = 1 := by decide +kernel
theorem sign1 (n i : Nat) : (signAt n i).length = 1 := by
  unfold signAt
  split
  · rfl
  · exact dash1
theorem nine_size : nineS.cps.size = 9 := by decide +kernel
section
variable {P : Program} {w : World} {K : PySem.W.Frag} {mg : Str → Option Value} {base : Heap} {a : Ads}
theorem ok_Mode_str (T : Txt w K mg a) : FnOk P w K mg base CX0 1 a.f_ModeD_strD a.d_ModeD_strD ["self"] (spStr a) := by
  refine T.fn_ModeD_strD.ok sc_ModeD_strD (fun vs H Q E h => ?_) (fun cdv A outer s H vs Q E hr h => ?_)
  · obtain ⟨_, _, rfl, _⟩ := h
    rfl
  · obtain ⟨p, n, rfl, ⟨dx, hp⟩, hn, k⟩ := h
    refine ⟨_, (pss_one (ps_ret (pe_join pe_str (pe_lc (own := [("sign", 1), ("bit", 2)]) (g := gTup K 2 (gCons (gName 1) (gCons (gName 2) gNil))) rfl sc_ModeD_strD.nd (pi_zipS (by rfl) T.b_zip (pa_cons (pe_glob (v := .str "rwxrwxrwx") rfl T.mg_NINE_SIGNS.choose_spec ⟨_, rfl⟩) (pa_cons (pe_glob (v := .ref a.k_NINE_BITS) rfl T.mg_NINE_BITS rfl) pa_nil))) (blkOk_by (own := [("sign", 1), ("bit", 2)]) (N := n_ModeD_strD) (sc := defScope s_ModeD_strD) (by decide +kernel)) (fun _ _ _ _ _ => (pg_tup rfl (pgs_cons (pg_name (i := 1) sc_ModeD_strD.nd rfl (Or.inl rfl)) (pgs_cons (pg_name (i := 2) sc_ModeD_strD.nd rfl (Or.inl rfl)) pgs_nil)))) (fun _ _ _ _ _ => pts_nil) (fun _ _ _ _ _ => (pe_ifExp (pt_truthE (K := K) (pe_op op_and (pe_fldE (K := K) (pv 0) rfl) (pv 2)) (by intro _; rfl)) (pv 1) pe_str)))))), ?_⟩
    refine s_ret (v := .str (shown n)) (ev_join (ys := (List.range 9).map (signAt n)) ev_c (el_is (el_lcZ (K := K) (s := nineS) (b := a.k_NINE_BITS) (ys := nineB.map V.int) (fun i => V.str (signAt n i)) (ea_cons ev_c (ea_cons ev_c ea_nil)) (T.t_NINE_BITS H) (by decide +kernel) (by decide +kernel) (fun _ _ => rfl) (fun i c y H1 e hc hy => ?_)) ?_) ?_) fun H1 e1 => k H1 e1
    · rw [← Array.getElem?_toList] at hc
      rw [List.getElem?_map] at hy
      obtain ⟨b, hb, rfl⟩ := Option.map_eq_some_iff.mp hy
      refine ev_if (b := (Builtin.bitAnd (n : Nat) b != 0)) (et_truth (ev_op (ev_fld (ev_var rfl) (e _ _ hp) T.c_Mode T.n_number_Mode (by simp [List.lookup])) (ev_var rfl) rv_I0)) (fun h => ev_is (ev_var rfl) ?_) (fun h => ev_is ev_c ?_)
      · unfold signAt
        rw [show nineB.getD i 0 = b by simp [List.getD, hb], if_pos h, show nineS.cps.toList.getD i 0 = c by simp [List.getD, hc]]
      · unfold signAt
        rw [show nineB.getD i 0 = b by simp [List.getD, hb], if_neg (by rw [h]; decide)]
    · rw [given_all, nine_size, List.map_map]
      rfl
    · have : ∀ l : List Nat, ((l.map (signAt n)).map (·.length)).sum = l.length := by
        intro l
        induction l with
        | nil => rfl
        | cons x l ih => simp only [List.map_cons, List.sum_cons, List.length_cons, ih, sign1]; omega
      rw [this, List.length_map, List.length_range, show ("" : Str).length = 0 from rfl]
      decide
end
/-! str of an own instance -/
section
variable {X : Cx} {CX : CXT} {C g : Addr} {n : Nat} {sp : Sp} {E : XK} {fd : FuncData} {ps : List Str}
def rStrOwn (C : Addr) (sp : Sp) (E : XK) : List V → Hp → VK → Prop := fun xs H Q => ∃ a dx fs, xs = [V.ref a] ∧ H a = some (.ins C dx fs) ∧ sp [.ref a] H (fun z H' => ∃ s, z = .str s ∧ Q z H') E
theorem call_strOwn (hs : PySem.W.findIn X.K (.ref C) "__str__" = some (some (.ref g))) (hf : PySem.W.isFn X.K (.ref g) = true) (F : FnR X.prog X.w X.K X.mg X.base CX n g sp) (hr : Room (n + 2) X.A) (hx : Passes CX X E) : CallR X (.type "str") (rStrOwn C sp E) := by
  intro pins s σ H xs us Q I r start
  obtain ⟨a, dx, fs, rfl, hsl, q⟩ := start
  obtain ⟨u, rfl, ru⟩ := r.one
  obtain rfl : u = Value.ref a := ru
  obtain ⟨ox, od, J, _⟩ := StX.insC_at (X := X) I (.inr ⟨dx, fs, hsl⟩)
  have low : Room (n + 1) X.A.in1 := Room.in1 hr
  have hr2 : Room n X.A.in1.in1 := low.in1
  refine PySem.W.kso_call hr2.units0 I.kIn J hs hf (wpAny_mono (wpAny_call (SlX.run_at (us := [.ref a]) (ws := [.ref a]) F hr2 I.env0.in1.in1 hx I (.cons rfl .nil) q)) (fun w s' z => ?_) fun _ _ x => x)
  obtain ⟨z', H', I', rz, s2, ei, qz⟩ := z
  subst ei
  obtain ⟨t, e⟩ := (show ∃ t, w = Value.str s2 t from rz)
  cases e
  exact ⟨.str s2, H', I', ⟨t, rfl⟩, qz⟩
/-- a call of an own instance by keywords alone -/
theorem callK_of {M : Model} {A : Around} {E : Value → Shared → Prop} {s : Shared} {a : Addr} {pos : Pos} {Q : Value → Shared → Prop} {args : List (Bool × Sem Value)} {kws : List (Option Str × Sem Value)} (hplain : (args.any (·.1) || kws.any (·.1.isNone)) = false)
    (h : wpAny M A (evalArgs (.ref a) true args kws) (fun z s₁ => (∃ C ox od, PySem.W.InstAt s₁.heap a ox C od ∧ ox.data = .plain) ∧ wpAny M A (call (.ref a) ([] ++ z.pos) z.kw) Q E s₁) E s) : wpAny M A (callWith pos (.ref a) [] args kws) Q E s := by
  unfold callWith
  refine wpAny_bind (wpAny_holding (wpAny_mono h (fun got s2 there => wpAny_bind (wpAny_standAt ?_)) fun _ _ same => same))
  obtain ⟨⟨C, ox, od, J, hd⟩, go⟩ := there
  simp only [hplain]
  refine wpAny_bind ((PySem.W.kco_keeper (M := M) J hd).here ?_)
  exact wpAny_bind (wpAny_mono (wpAny_operateT go) (fun r s₂ hr => wpAny_bind (wpAny_holding (wpAny_point (wpAny_pure hr)))) fun _ _ y => y)
def tCallOK (C : Addr) (sp : Sp) (gV : List V → List V → List V) (E : XK) (tf : TE) (tk : TA) : TE := fun σ H Q => tf σ H fun y H1 => ∃ p, y = V.ref p ∧ tk σ H1 fun zs H2 => (∃ dx fs, H2 p = some (.ins C dx fs)) ∧ sp (gV [.ref p] zs) H2 Q E
theorem pe_callOK {fe : Expr} {pos : Pos} {kws : List Keyword} {tf : TE} {tk : TA} {ks : List Str} {gg : List Value → List Value → List Value} {gV : List V → List V → List V} (hf : PE X fe tf) (c : StX.CallO X.K C g) (F : FnOk X.prog X.w X.K X.mg X.base CX n g fd ps sp) (hr : Room n X.A) (hb : KBinds X.K fd ps ks gg gV) (hx : Passes CX X E)
    (hkw : PK X kws tk) (hall : (backToKw pos (keywordEach kws X.env)).all (·.1.isSome) = true := by rfl) (hks : (backToKw pos (keywordEach kws X.env)).filterMap (·.1) = ks := by rfl)
    (hpl : ((backTo pos (starEach [] X.env)).any (·.1) || (backToKw pos (keywordEach kws X.env)).any (·.1.isNone)) = false := by rfl)
    (ht : eval (.Call fe [] kws pos) X.env = (do callWith pos (← eval fe X.env) [] (backTo pos (starEach [] X.env)) (backToKw pos (keywordEach kws X.env))) := by rfl) : PE X (.Call fe [] kws pos) (tCallOK C sp gV E tf tk) := by
  refine ⟨fun pins s σ H Q I h => ?_⟩
  rw [ht]
  refine wpAny_bind (thn (hf.run pins s σ H _ I h) fun u s1 ⟨y, H1, I1, ry, p, ey, q⟩ => ?_)
  subst ey
  obtain rfl : u = Value.ref p := ry
  refine callK_of hpl (PyProof.Rows.evalArgs_kw2_nil hall (thn (hkw.run pos pins s1 σ H1 _ I1 q) fun ws s2 ⟨zs, H2, I2, rz, ⟨dx, fs, hi⟩, q2⟩ => ?_))
  obtain ⟨ox, od, J, hd⟩ := StX.insC_at (X := X) I2 (.inr ⟨dx, fs, hi⟩)
  refine ⟨⟨C, ox, od, J, hd⟩, ?_⟩
  rw [hks]
  have r2 := hb.rel (vs := [.ref p]) (us := [.ref p]) (.cons rfl .nil) rz
  have hl : (gg [.ref p] ws).length = ps.length := by rw [← r2.length]; exact F.len _ _ _ _ q2
  refine wpAny_call (PySem.W.kco_code (a := ⟨[] ++ [], ks.zip ws⟩) I2.kIn J hd c.at_ c.fn c.fi (codeAny_mono (F.run X.A X.stack s2 H2 ⟨[.ref p], ks.zip ws⟩ (gg [.ref p] ws) (gV [.ref p] zs) Q E hr I2.env0 (hb.to s2 [.ref p] ws I2.kIn hl) r2 q2) fun r s' hq => ?_))
  cases r with
  | error e => exact hx pins σ H2 s2 e s' I2 hq
  | ok fl =>
    cases fl with
    | ret u => exact I2.after hq
    | next => exact False.elim hq
    | brk => exact False.elim hq
    | cont => exact False.elim hq
end
end KX
set_option Elab.async false
set_option linter.all false
set_option maxRecDepth 100000
set_option maxHeartbeats 4000000
namespace KX
open PySem PySem.Spec PyProof.Rows L2 Evl
local macro_rules | `(tactic| walk_at "ev") => `(tactic| repeat' (first | exact ev_c | exact ev_var rfl | exact rv_I0 | refine' rv_I ?_ | refine' rv_eq ?_ | refine' rv_ne ?_ | refine' ev_op ?_ ?_ ?_ | exact ea_nil | refine' ea_cons ?_ ?_ | refine' et_test ?_ | refine' et_B ?_ | refine' et_not ?_ | refine' ev_notV ?_))

open PySem
section
variable {X : Cx} {K : PySem.W.Frag} {a : Ads} {σ : L2.St} {H H' : Hp} {ta tb te tx tf : TE} {t tk : TA} {tt : TT} {x y z v : V} {r : R2} {D : Ends} {tz tu : TS} {E : XK} {g : TG}
theorem em_callO {p : Addr} {who sign what form : Str} {n : Nat} (hf : Ev tf σ H (.ref p)) (ha : EvA t σ H [v, .str form]) (c : ClauseAt K a H p who sign what) (hw : who ∈ allWho) (hn : n < 512) (hv : AsMode a H v n) :
    EvM a (StX.tCallO X a.f_Clause (fun vs H Q E => spCall K a (vs ++ []) H Q E) E tf t) σ H (resN who sign what n form) := fun H1 e Q q =>
  hf H1 e _ fun H2 e2 => ⟨p, rfl, ha H2 (e.trans e2) _ fun H3 e3 => by
    have c3 := c.mono ((e.trans e2).trans e3)
    obtain ⟨dx, tt, ho, _⟩ := c3.ob
    exact ⟨.inr ⟨dx, _, ho⟩, p, v, n, who, sign, what, form, rfl, c3, hw, hn, (by
      rcases hv with rfl | ⟨q, rfl, m⟩
      · exact .inl rfl
      · exact .inr ⟨q, rfl, m.mono ((e.trans e2).trans e3)⟩), fun q' H4 hq e4 m => q q' H4 (fresh_back (e2.trans e3) hq) ((e2.trans e3).trans e4) m⟩⟩
def gK (us ws : List V) : List V := match us, ws with | [x], [f, m] => [x, m, f] | _, _ => []
def gKv (us ws : List Value) : List Value := match us, ws with | [x], [f, m] => [x, m, f] | _, _ => []
theorem em_callOK {p : Addr} {who sign what form : Str} {n : Nat} (hf : Ev tf σ H (.ref p)) (ha : EvA tk σ H [.str form, v]) (c : ClauseAt K a H p who sign what) (hw : who ∈ allWho) (hn : n < 512) (hv : AsMode a H v n) :
    EvM a (tCallOK a.f_Clause (spCall K a) gK E tf tk) σ H (resN who sign what n form) := fun H1 e Q q =>
  hf H1 e _ fun H2 e2 => ⟨p, rfl, ha H2 (e.trans e2) _ fun H3 e3 => by
    have c3 := c.mono ((e.trans e2).trans e3)
    obtain ⟨dx, tt, ho, _⟩ := c3.ob
    exact ⟨⟨dx, _, ho⟩, p, v, n, who, sign, what, form, rfl, c3, hw, hn, (by
      rcases hv with rfl | ⟨q, rfl, m⟩
      · exact .inl rfl
      · exact .inr ⟨q, rfl, m.mono ((e.trans e2).trans e3)⟩), fun q' H4 hq e4 m => q q' H4 (fresh_back (e2.trans e3) hq) ((e2.trans e3).trans e4) m⟩⟩
theorem q_asgL3 {i n1 n2 n3 : Nat} {t1 t2 t3 : TE} (h1 : EvM a t1 σ H n1) (h2 : EvM a t2 σ H n2) (h3 : EvM a t3 σ H n3)
    (k : ∀ (l p1 p2 p3 : Addr) (H1 : Hp), Ex H H1 → H1 l = some (.lst [.ref p1, .ref p2, .ref p3]) → ModeAt a H1 p1 n1 → ModeAt a H1 p2 n2 → ModeAt a H1 p3 n3 → tz D (σ.set i (some (.ref l))) H1) : tSeq (tAsg (tLst (tCons t1 (tCons t2 (tCons t3 tNil)))) (gName i)) tz D σ H :=
  h1 H (Ex.refl H) _ fun p1 H1 _ e1 m1 => h2 H1 e1 _ fun p2 H2 _ e2 m2 => h3 H2 (e1.trans e2) _ fun p3 H3 _ e3 m3 => ⟨by show 3 ≤ sizeLine; decide, fun l hl =>
    k l p1 p2 p3 _ (((e1.trans e2).trans e3).trans (Ex.new hl)) upd_same (m1.mono ((e2.trans e3).trans (Ex.new hl))) (m2.mono (e3.trans (Ex.new hl))) (m3.mono (Ex.new hl))⟩
theorem q_forNT {xs : List V} {tl : TE} (h : EvU tl σ H xs) (Pv : Addr → Nat → L2.St → Hp → Prop) (h0 : ∀ p H1, H p = none → Ex H H1 → H1 p = some (.tup xs) → Pv p 0 σ H1) (hl : ∀ p i σ' H', i ≤ xs.length → Pv p i σ' H' → SqT K H' p xs)
    (hs : ∀ p i x σ' H', xs[i]? = some x → Pv p i σ' H' → g x σ' H' fun σ2 H2 => tu { D with nx := Pv p (i + 1), ct := Pv p (i + 1), bk := tz D } σ2 H2) (hd : ∀ p σ' H', Pv p xs.length σ' H' → tz D σ' H') : tSeq (tFor (iTup K tl) g tu) tz D σ H :=
  h H (Ex.refl H) _ fun p H1 hp e h1 => ⟨p, rfl, ⟨xs, st_of h1⟩, for_tup (D := { D with nx := tz D }) (Pv p) (h0 p H1 hp e h1) (hl p) (hs p) (hd p)⟩
theorem ev_opU1 {xs : List V} (ha : EvU ta σ H xs) (hb : Ev tb σ H y) (hr : ∀ p H1, H1 p = some (.tup xs) → Ex H H1 → RV r (.ref p) y H1 z) : Ev (tOp r ta tb) σ H z := fun H1 e Q q =>
  ha H1 e _ fun p H2 _ e2 h2 => hb H2 (e.trans e2) _ fun H3 e3 => hr p H3 (e3 _ _ h2) ((e.trans e2).trans e3) H3 (Ex.refl _) _ fun H4 e4 => q H4 ((e2.trans e3).trans e4)
theorem dp_strs : ∀ ns : List Str, DpAll K H (ns.map V.str) (ns.map PyData.str)
  | [] => .nil
  | n :: ns => .cons (.str n) (dp_strs ns)
theorem eqv_strs : ∀ a b : List Str, PyData.eqvAll (a.map PyData.str) (b.map PyData.str) = decide (a = b)
  | [], [] => by simp [PyData.eqvAll, PyData.eqv]
  | [], _ :: _ => by simp [PyData.eqvAll, PyData.eqv]
  | _ :: _, [] => by simp [PyData.eqvAll, PyData.eqv]
  | x :: a, y :: b => by
    have := eqv_strs a b
    simp only [List.map_cons, PyData.eqvAll, PyData.eqv, this]
    by_cases h : x = y <;> by_cases h2 : a = b <;> simp [h, h2]
/-- a new clause -/
def EvC (K : PySem.W.Frag) (a : Ads) (te : TE) (σ : L2.St) (H : Hp) (who sign what : Str) : Prop := ∀ H1, Ex H H1 → ∀ Q : VK, (∀ p H2, H1 p = none → Ex H1 H2 → ClauseAt K a H2 p who sign what → Q (.ref p) H2) → te σ H1 Q
theorem ec_make {who sign what : Str} (h : EvA t σ H [.str who, .str sign, .str what]) (h1 : who ∈ allWho) (h2 : sign ∈ allSign) (h3 : what ∈ allw) : EvC K a (tMake a.f_Clause (spClause K a) [] E t) σ H who sign what := fun H1 e1 Q q =>
  h H1 e1 _ fun H2 e2 x dx hx hdx hne => ⟨x, dx, who, who, sign, what, rfl, .inl rfl, h1, h2, h3, upd_same, fun H3 k3 c => ⟨rfl, q x H3 (fresh_back e2 hx) (e2.trans fun b o hb => by
    have bx := ne_of_none hb hx
    have bdx := ne_of_none hb hdx
    exact k3 b o (by rw [upd_ne bx, upd_ne bdx]; exact hb) bx) c⟩⟩
theorem q_parCM {i j n : Nat} {t1 t2 : TE} {who sign what : Str} (h1 : EvC K a t1 σ H who sign what) (h2 : EvM a t2 σ H n) (k : ∀ c m H1, Ex H H1 → ClauseAt K a H1 c who sign what → ModeAt a H1 m n → tz D ((σ.set i (some (.ref c))).set j (some (.ref m))) H1) : tSeq (tPar i j (tCons t1 (tCons t2 tNil))) tz D σ H :=
  h1 H (Ex.refl H) _ fun c H1 _ e1 hc => h2 H1 e1 _ fun m H2 _ e2 hm => ⟨_, _, rfl, k c m H2 (e1.trans e2) (hc.mono e2) hm⟩
theorem q_asgC {i : Nat} {who sign what : Str} (h : EvC K a te σ H who sign what) (k : ∀ c H1, Ex H H1 → ClauseAt K a H1 c who sign what → tz D (σ.set i (some (.ref c))) H1) : tSeq (tAsg te (gName i)) tz D σ H :=
  h H (Ex.refl H) _ fun c H1 _ e1 hc => k c H1 e1 hc
/-- the mode that is handed in is new -/
theorem em_callOM {p : Addr} {who sign what form : Str} {n : Nat} {tm : TE} (hf : Ev tf σ H (.ref p)) (hm : EvM a tm σ H n) (c : ClauseAt K a H p who sign what) (hw : who ∈ allWho) (hn : n < 512) :
    EvM a (StX.tCallO X a.f_Clause (fun vs H Q E => spCall K a (vs ++ []) H Q E) E tf (tCons tm (tCons (tC (.str form)) tNil))) σ H (resN who sign what n form) := fun H1 e Q q =>
  hf H1 e _ fun H2 e2 => ⟨p, rfl, hm H2 (e.trans e2) _ fun m H3 _ e3 hm3 => by
    have c3 := c.mono ((e.trans e2).trans e3)
    obtain ⟨dx, tt, ho, _⟩ := c3.ob
    exact ⟨.inr ⟨dx, _, ho⟩, p, .ref m, n, who, sign, what, form, rfl, c3, hw, hn, .inr ⟨m, rfl, hm3⟩, fun q' H4 hq e4 m => q q' H4 (fresh_back (e2.trans e3) hq) ((e2.trans e3).trans e4) m⟩⟩
/-- the clause is new -/
theorem em_callOC {who sign what form : Str} {n : Nat} (hf : EvC K a tf σ H who sign what) (ha : ∀ H1, Ex H H1 → EvA t σ H1 [.int n, .str form]) (hw : who ∈ allWho) (hn : n < 512) :
    EvM a (StX.tCallO X a.f_Clause (fun vs H Q E => spCall K a (vs ++ []) H Q E) E tf t) σ H (resN who sign what n form) := fun H1 e Q q =>
  hf H1 e _ fun p H2 _ e2 c => ⟨p, rfl, ha H1 e H2 e2 _ fun H3 e3 => by
    have c3 := c.mono e3
    obtain ⟨dx, tt, ho, _⟩ := c3.ob
    exact ⟨.inr ⟨dx, _, ho⟩, p, .int n, n, who, sign, what, form, rfl, c3, hw, hn, .inl rfl, fun q' H4 hq e4 m => q q' H4 (fresh_back (e2.trans e3) hq) ((e2.trans e3).trans e4) m⟩⟩
theorem ev_propM {n : Nat} (h : EvM a te σ H n) : Ev (tProp a.f_Mode (getSp a.f_Mode "_number") [] E te) σ H (.int n) := fun H1 e Q q =>
  h H1 e _ fun p H2 _ e2 ⟨dx, ho⟩ => ⟨p, dx, _, rfl, ho, p, dx, _, _, rfl, ho, by simp [List.lookup], q H2 e2⟩
theorem ev_strO {n : Nat} (h : EvM a te σ H n) (hn : n < 512) : Ev (tCB (rStrOwn a.f_Mode (fun vs H Q E => spStr a (vs ++ []) H Q E) E) (tCons te tNil)) σ H (.str (shown n)) := fun H1 e Q q =>
  h H1 e _ fun p H2 _ e2 ⟨dx, ho⟩ => ⟨p, dx, _, rfl, ho, p, n, rfl, ⟨dx, ho⟩, hn, fun H3 e3 => ⟨_, rfl, q H3 (e2.trans e3)⟩⟩
end
theorem shaped3 {x y z : Str} (h1 : PyData.strOk x = true) (h2 : PyData.strOk y = true) (h3 : PyData.strOk z = true) : SeqAt.shaped (.tuple [.str x, .str y, .str z]) = true ∧ SeqAt.shaped (.list [.str x, .str y, .str z]) = true := by
  constructor <;> simp [SeqAt.shaped, PyData.canLay0, PyData.canLayAll0, PyData.depth, PyData.depthAll, h1, h2, h3]
theorem oks : (∀ s ∈ allWho, PyData.strOk s = true) ∧ (∀ s ∈ allSign, PyData.strOk s = true) ∧ (∀ s ∈ allw, PyData.strOk s = true) ∧ (∀ s ∈ (["rwxr----x", "rw-r-----", "rwx------"] : List Str), PyData.strOk s = true) := by decide +kernel
theorem rv_neT3 {K : PySem.W.Frag} {H : Hp} {p q : Addr} {x y z : Str} (h1 : H p = some (.tup [.str x, .str y, .str z])) (h2 : H q = some (.tup [.str x, .str y, .str z])) (s1 : PyData.strOk x = true) (s2 : PyData.strOk y = true) (s3 : PyData.strOk z = true) : RV (rNeD K) (.ref p) (.ref q) H (.bl false) := fun H1 e Q k =>
  ⟨.tuple [.str x, .str y, .str z], .tuple [.str x, .str y, .str z], .tup (st_of (e _ _ h1)) (dp_strs [x, y, z]), .tup (st_of (e _ _ h2)) (dp_strs [x, y, z]), (shaped3 s1 s2 s3).1, (shaped3 s1 s2 s3).1, by
    rw [show PyData.eqv (.tuple [.str x, .str y, .str z]) (.tuple [.str x, .str y, .str z]) = PyData.eqvAll ([x, y, z].map PyData.str) ([x, y, z].map PyData.str) by simp [PyData.eqv], eqv_strs, decide_eq_true rfl]
    exact k H1 (Ex.refl H1)⟩
theorem rv_eqL3 {K : PySem.W.Frag} {H : Hp} {p q : Addr} {x y z : Str} (h1 : H p = some (.lst [.str x, .str y, .str z])) (h2 : H q = some (.lst [.str x, .str y, .str z])) (s1 : PyData.strOk x = true) (s2 : PyData.strOk y = true) (s3 : PyData.strOk z = true) : RV (rEqD K) (.ref p) (.ref q) H (.bl true) := fun H1 e Q k =>
  ⟨.list [.str x, .str y, .str z], .list [.str x, .str y, .str z], .lst (sq_of (e _ _ h1)) (dp_strs [x, y, z]), .lst (sq_of (e _ _ h2)) (dp_strs [x, y, z]), (shaped3 s1 s2 s3).2, (shaped3 s1 s2 s3).2, by
    rw [show PyData.eqv (.list [.str x, .str y, .str z]) (.list [.str x, .str y, .str z]) = PyData.eqvAll ([x, y, z].map PyData.str) ([x, y, z].map PyData.str) by simp [PyData.eqv], eqv_strs, decide_eq_true rfl]
    exact k H1 (Ex.refl H1)⟩
theorem kb_call {w : World} {K : PySem.W.Frag} {mg : Str → Option Value} {a : Ads} (T : Txt w K mg a) : KBinds K a.d_ClauseD_callD ["self", "mode", "form"] ["form", "mode"] gKv gK where
  to := fun s us ws X hl => by
    obtain ⟨oc, od, kV, doc, pm, an, cdv, ct, osl, e, lk, hcd⟩ := T.fn_ClauseD_callD.ex
    rw [e]
    match us, ws, hl with
    | [x], [f, m], _ => exact .of_eq rfl
  rel := fun {vs us zs ws} r1 r2 => by
    cases r1 with
    | nil => exact .nil
    | cons h1 t1 =>
      cases t1 with
      | cons _ _ => exact .nil
      | nil =>
        cases r2 with
        | nil => exact .nil
        | cons h2 t2 =>
          cases t2 with
          | nil => exact .nil
          | cons h3 t3 =>
            cases t3 with
            | nil => exact .cons h1 (.cons h3 (.cons h2 .nil))
            | cons _ _ => exact .nil
theorem ends7 : ([shown (resN "u" "=" "rwX" 417 "file"), shown (resN "u" "=" "rwX" 416 "file"), shown (resN "u" "=" "rwX" 64 "file")] : List Str) = (["rwxr----x", "rw-r-----", "rwx------"] : List Str) ∧ resN "ugo" "-" "" 493 "folder" = 493 := by decide +kernel
end KX
set_option Elab.async false
set_option linter.all false
set_option maxRecDepth 100000
set_option maxHeartbeats 4000000
namespace KX
open PySem PySem.Spec PyProof.Rows L2 Evl
local macro_rules | `(tactic| walk_at "ev") => `(tactic| repeat' (first | exact ev_c | exact ev_var rfl | exact rv_I0 | refine' rv_I ?_ | refine' rv_eq ?_ | refine' rv_ne ?_ | refine' ev_op ?_ ?_ ?_ | exact ea_nil | refine' ea_cons ?_ ?_ | refine' et_test ?_ | refine' et_B ?_ | refine' et_not ?_ | refine' ev_notV ?_))

open PySem
theorem pi_tupE {X : Cx} {K : PySem.W.Frag} {tg l : Expr} {tl : TE} (hl : PE X l tl) (hK : X.K = K := by rfl) : PI X tg l (iTup K tl) := by
  subst hK
  exact pi_tup hl
/-- tuple(x), K written out -/
def rTup (K : PySem.W.Frag) : List V → Hp → VK → Prop := fun xs H Q => ∃ p ys, xs = [.ref p] ∧ ((SqL K H p ys ∧ ∀ l, H l = none → Q (.ref l) (upd H l (.tup ys))) ∨ (SqT K H p ys ∧ Q (.ref p) H))
theorem call_tupE {X : Cx} {K : PySem.W.Frag} (hK : X.K = K := by rfl) : CallR X (.type "tuple") (rTup K) := by
  subst hK
  exact call_tuple_of
section
variable {K : PySem.W.Frag} {σ : L2.St} {H H' : Hp} {ta tb te tx tv : TE} {t u : TT} {x y z v : V} {r : R2} {D : Ends} {tz : TS}
theorem ell_zip {a b : Addr} {xs ys : List V} {ta : TA} {i1 i2 n : Nat} {vs : List Nat} (rows : Nat → List V) (h : EvA ta σ H [.ref a, .ref b]) (hx : SqT K H a xs) (hy : SqT K H b ys) (l1 : xs.length = n) (l2 : ys.length = n) (hz : n ≤ 40000)
    (hw : ∀ x y, wipe (((wipe σ vs).set i1 (some x)).set i2 (some y)) vs = wipe σ vs)
    (he : ∀ (i : Nat) (x y : V) H1, Ex H H1 → xs[i]? = some x → ys[i]? = some y → EvU te (((wipe σ vs).set i1 (some x)).set i2 (some y)) H1 (rows i)) :
    EvLL (tLc (RZ.iZipA K ta) (gTup K 2 (gCons (gName i1) (gCons (gName i2) gNil))) tYes te vs) σ H n rows := fun H0 e Q q => h H0 e _ fun H1 e1 => ⟨a, b, xs, ys, rfl, .inr ⟨ex_t (e.trans e1) hx, ex_t (e.trans e1) hy, fun Dl hD =>
  ⟨fun i m H' => m = n - i ∧ i ≤ n ∧ (H1 Dl = none ∧ Ex H1 H' ∧ ∃ qs : List Addr, qs.length = i ∧ H' Dl = some (.lst (qs.map V.ref)) ∧ ∀ j q, qs[j]? = some q → H1 q = none ∧ H' q = some (.tup (rows j)) ∧ q ≠ Dl), ⟨n, by simp, Nat.zero_le _, hD, Ex.new hD, [], rfl, upd_same, fun j q hq => by simp at hq⟩, by
    rintro i m H' ⟨rfl, hi, p1, p2, qs, p3, p4, p5⟩
    have sx : SqT K H' a xs := ex_t ((e.trans e1).trans p2) hx
    have sy : SqT K H' b ys := ex_t ((e.trans e1).trans p2) hy
    by_cases hlt : i < n
    · refine .inr ⟨⟨xs, ys, xs[i], ys[i], sx, sy, by simp [l1, hlt], by simp [l2, hlt]⟩, (fun H' => H1 Dl = none ∧ Ex H1 H' ∧ ∃ qs : List Addr, qs.length = i + 1 ∧ H' Dl = some (.lst (qs.map V.ref)) ∧ ∀ j q, qs[j]? = some q → H1 q = none ∧ H' q = some (.tup (rows j)) ∧ q ≠ Dl), fun H2 p' => ⟨n - (i + 1), by omega, rfl, hlt, p'⟩, ?_⟩
      rintro w H2 ⟨T, x, y, rfl, hT, rfl, gx, gy⟩
      have e2 : Ex H' (upd H' T (.tup [x, y])) := Ex.new hT
      have e02 : Ex H1 (upd H' T (.tup [x, y])) := p2.trans e2
      refine ⟨T, _, rfl, st_of upd_same, rfl, _, _, rfl, _, _, rfl, rfl, hw _ _, yes_at (iteT ?_)⟩
      refine he i x y H1 (e.trans e1) (gx xs sx) (gy ys sy) _ e02 _ fun q H4 hq e4 h4 => ⟨qs.map V.ref, e4 _ _ (e2 _ _ p4), sz_lt (by rw [List.length_map]; omega), p1, Ex.mut (e02.trans e4) p1, qs ++ [q], by rw [List.length_append, p3] <;> rfl, by rw [upd_same, List.map_append] <;> rfl, fun j r hr => ?_⟩
      have qD : q ≠ Dl := fun z => by rw [z, e2 _ _ p4] at hq; cases hq
      by_cases hj : j < qs.length
      · rw [List.getElem?_append_left hj] at hr
        obtain ⟨r1, r2, r3⟩ := p5 j r hr
        exact ⟨r1, by rw [upd_ne r3]; exact e4 _ _ (e2 _ _ r2), r3⟩
      · have hj2 : j = qs.length := by
          have := (List.getElem?_eq_some_iff.mp hr).1
          rw [List.length_append] at this
          have e1 : ([q] : List Addr).length = 1 := rfl
          omega
        subst hj2
        rw [List.getElem?_append_right (Nat.le_refl _), Nat.sub_self] at hr
        obtain rfl : q = r := Option.some.inj hr
        exact ⟨fresh_back e02 hq, by rw [upd_ne qD, p3]; exact h4, qD⟩
    · have e2 : i = n := by omega
      subst e2
      exact .inl ⟨⟨xs, ys, sx, sy, .inl (Nat.le_of_eq l1)⟩, q Dl qs H' (fresh_back e1 p1) (e1.trans p2) p3 p4 fun j r hr => ⟨fresh_back e1 (p5 j r hr).1, (p5 j r hr).2.1⟩⟩⟩⟩⟩
end
/-- tables: four rows of eight -/
def TabR (K : PySem.W.Frag) (H : Hp) (t : Addr) (rows : Nat → Nat → Nat) : Prop := Tab K H t (rows 0) (rows 1) (rows 2) (rows 3)
def spTurn (K : PySem.W.Frag) : Sp := fun vs H Q _ => ∃ (p q : Addr) (f g : Nat → Nat → Nat), vs = [.ref p, .ref q] ∧ TabR K H p f ∧ TabR K H q g ∧ (∀ k, Low (f k)) ∧ ∀ t H', Ex H H' → TabR K H' t (fun k i => g k (f k i)) → Q (.ref t) H'
section
variable {P : Program} {w : World} {K : PySem.W.Frag} {mg : Str → Option Value} {base : Heap} {a : Ads}
theorem row_at {f : Nat → Nat} {i : Nat} {x : V} (h : (rowV f)[i]? = some x) : i < 8 ∧ x = .int (f i : Nat) := by
  unfold rowV at h
  rw [List.getElem?_map] at h
  obtain ⟨j, hj, rfl⟩ := Option.map_eq_some_iff.mp h
  have h8 := (List.getElem?_eq_some_iff.mp hj).1
  rw [List.length_range] at h8
  rw [List.getElem?_range h8] at hj
  cases hj
  exact ⟨h8, rfl⟩
abbrev scFirst : Scope := { kind := .function, names := [(".0", .local), ("first", .local), ("later", .cell), ("tuple", .globalImplicit)], isGenerator := false, isCoroutine := false }
theorem ok_in_turn (T : Txt w K mg a) {ft : Addr} {dt : FuncData} (F : Fun K "in_turn" "in_turn" s_in_turn ft dt) : FnOk P w K mg base CX0 1 ft dt ["one", "other"] (spTurn K) := by
  refine F.ok sc_in_turn (fun vs H Q E h => ?_) (fun cdv A outer s H vs Q E hr h => ?_)
  · obtain ⟨_, _, _, _, rfl, _⟩ := h
    rfl
  · obtain ⟨p, q, f, gg, rfl, ⟨p0, p1, p2, p3, hp, f0, f1, f2, f3⟩, ⟨q0, q1, q2, q3, hq, g0, g1, g2, g3⟩, low, k⟩ := h
    refine ⟨_, (pss_one (ps_ret (pe_callTy (call_tupE (K := K)) (by rfl) T.b_tuple (by decide +kernel) (pa_cons (pe_lc (own := [("first", 2), ("later", 3)]) (g := gTup K 2 (gCons (gName 2) (gCons (gName 3) gNil))) rfl sc_in_turn.nd (RZ.pi_zipA (by rfl) T.b_zip (pa_cons (pv 0) (pa_cons (pv 1) pa_nil))) (blkOk_by (own := [("first", 2), ("later", 3)]) (N := n_in_turn) (sc := defScope s_in_turn) (by decide +kernel)) (fun _ _ _ _ _ => (pg_tup rfl (pgs_cons (pg_name (i := 2) sc_in_turn.nd rfl (Or.inl rfl)) (pgs_cons (pg_name (i := 3) sc_in_turn.nd rfl (Or.inr rfl)) pgs_nil)))) (fun _ _ _ _ _ => pts_nil) (fun _ _ _ _ _ => (pe_callTy (call_tupE (K := K)) (by rfl) T.b_tuple (by decide +kernel) (pa_cons (pe_lc (own := [("pattern", 4)]) (g := gName 4) rfl sc_in_turn.nd (pi_tupE (K := K) (pv 2)) (blkOk_by (own := [("pattern", 4)]) (N := n_in_turn) (sc := scFirst) (by decide +kernel)) (fun _ _ _ _ _ => (pg_name (i := 4) sc_in_turn.nd rfl (Or.inl rfl))) (fun _ _ _ _ _ => pts_nil) (fun _ _ _ _ _ => (pe_ix (r := rIxT K) ix_tup (pv 3) (pv 4) (fun _ _ => rfl)))) pa_nil)))) pa_nil)))), ?_⟩
    have at4 : ∀ (i : Nat) (x y : V) (H1 : Hp), Ex H H1 → ([.ref p0, .ref p1, .ref p2, .ref p3] : List V)[i]? = some x → ([.ref q0, .ref q1, .ref q2, .ref q3] : List V)[i]? = some y → ∃ c d : Addr, x = .ref c ∧ y = .ref d ∧ SqT K H1 c (rowV (f i)) ∧ SqT K H1 d (rowV (gg i)) := fun i x y H1 e hx hy => by
      match i, hx, hy with
      | 0, hx, hy => exact ⟨p0, q0, (Option.some.inj hx).symm, (Option.some.inj hy).symm, ex_t e f0, ex_t e g0⟩
      | 1, hx, hy => exact ⟨p1, q1, (Option.some.inj hx).symm, (Option.some.inj hy).symm, ex_t e f1, ex_t e g1⟩
      | 2, hx, hy => exact ⟨p2, q2, (Option.some.inj hx).symm, (Option.some.inj hy).symm, ex_t e f2, ex_t e g2⟩
      | 3, hx, hy => exact ⟨p3, q3, (Option.some.inj hx).symm, (Option.some.inj hy).symm, ex_t e f3, ex_t e g3⟩
      | n + 4, hx, _ => simp at hx
    refine euu_tuple (K := K) (n := 4) (rows := fun k => rowV fun i => gg k (f k i)) (ell_zip (K := K) (n := 4) (fun k => rowV fun i => gg k (f k i)) (ea_cons (ev_var rfl) (ea_cons (ev_var rfl) ea_nil)) hp hq rfl rfl (by decide) (fun _ _ => rfl) (fun i x y H1 e1 hx hy => ?_)) H (Ex.refl H) _ fun t qs H1 _ e1 hl h1 hrows => k t H1 e1 (Tab.mk4 (rows := fun k i => gg k (f k i)) hl h1 fun j q hj => (hrows j q hj).2)
    obtain ⟨c, d, rfl, rfl, hc, hd⟩ := at4 i x y H1 e1 hx hy
    refine eu_tuple (K := K) (el_is (el_lcT (K := K) (xs := rowV (f i)) (σ' := fun x => [some (.ref p), some (.ref q), some (.ref c), some (.ref d), some x]) (fun _ => true) (fun j => V.int (gg i (f i j) : Nat)) (ev_var rfl) hc (by unfold rowV; simp) (fun j x H2 Q' e2 hj q => q) (fun _ => rfl) (fun _ _ _ _ _ => et_yes) (fun j x H2 e2 hj _ => ?_)) ?_)
    · obtain ⟨h8, rfl⟩ := row_at hj
      exact ev_op (ev_var rfl) (ev_var rfl) (rv_rowT (ex_t e2 hd) (low i j h8))
    · rw [given_all, show (rowV (f i)).length = 8 by unfold rowV; simp]
      rfl
end
end KX
set_option Elab.async false
set_option linter.all false
set_option maxRecDepth 100000
set_option maxHeartbeats 4000000
namespace KX
open PySem PySem.Spec PyProof.Rows L2 Evl
local macro_rules | `(tactic| walk_at "ev") => `(tactic| repeat' (first | exact ev_c | exact ev_var rfl | exact rv_I0 | refine' rv_I ?_ | refine' rv_eq ?_ | refine' rv_ne ?_ | refine' ev_op ?_ ?_ ?_ | exact ea_nil | refine' ea_cons ?_ ?_ | refine' et_test ?_ | refine' et_B ?_ | refine' et_not ?_ | refine' ev_notV ?_))

open PySem
/-! the signs of a text, counted -/
structure CountAt (x : Str) (t : Tok) (e it : Addr) (i : Nat) (h : Heap) : Prop where
  en : ∃ old, IsEnum h e it (i : Int) old
  txt : h.IsStrIter it (strIterType x) x t i
theorem two {p : Addr → Prop} {c1 c2 : Addr} (a1 : p c1) (a2 : p c2) : ∀ c ∈ [c1, c2], p c := List.forall_mem_cons.mpr ⟨a1, List.forall_mem_cons.mpr ⟨a2, List.forall_mem_nil _⟩⟩
theorem off2 {c c1 c2 : Addr} (h : c ∉ [c1, c2]) : c ≠ c1 ∧ c ≠ c2 := by
  simp only [List.mem_cons, List.not_mem_nil, or_false, not_or] at h
  exact h
section
variable {x : Str} {t : Tok} {e it : Addr} {i : Nat} {h h' : Heap}
theorem CountAt.obj (q : CountAt x t e it i h) : ∀ c ∈ [e, it], ∃ o, h.get? c = some o ∧ ∀ v, o.data ≠ .cell v := by
  obtain ⟨old, he⟩ := q.en
  obtain ⟨p1, g1, _, n1⟩ := q.txt
  exact two ⟨_, he, nofun⟩ ⟨p1, g1, by rw [n1]; exact nofun⟩
theorem CountAt.lt (q : CountAt x t e it i h) : ∀ c ∈ [e, it], c < h.objs.size := fun c m => let ⟨_, g, _⟩ := q.obj c m; Heap.lt_size g
theorem CountAt.keep (q : CountAt x t e it i h) (k : ∀ c ∈ [e, it], ∀ o, h.get? c = some o → h'.get? c = some o) : CountAt x t e it i h' := by
  obtain ⟨old, he⟩ := q.en
  obtain ⟨p1, g1, n1⟩ := q.txt
  refine ⟨⟨old, k e ?_ _ he⟩, ⟨p1, k it ?_ _ g1, n1⟩⟩ <;> simp
end
/-- pairs of a number and a sign -/
def ItEn (x : Str) : It :=
  ⟨fun i _ => i < x.cps.size, fun i H v H' => ∃ (T : Addr) (c : Nat), v = .ref T ∧ H T = none ∧ H' = upd H T (.tup [.int (i : Nat), .str ⟨#[c]⟩]) ∧ x.cps[i]? = some c, fun i _ => i = x.cps.size⟩
theorem turn_enS {P : Program} {w : World} {K : PySem.W.Frag} {elts : List Expr} {kk : Nat} {tpos : Pos} {x : Str} {t : Tok} {e it : Addr} (ne : e ≠ it) :
    Turn P w K (.Tuple elts kk tpos) (ItEn x) [e, it] e (CountAt x t e it) where
  mem := List.mem_cons_self ..
  obj := fun _ _ q => q.obj
  keep := fun _ _ _ q k => q.keep k
  self := fun _ _ _ _ _ q k => let ⟨_, he⟩ := q.en; wpAny_pyIter_enum he k
  item := by
    intro X e1 e2 e3 calm i pins s σ H E I free st more
    subst e1 e2 e3
    have quiet : X.A.in1.handled = none := I.ok.hd calm
    obtain ⟨old, he⟩ := st.en
    refine wpAny_pyNext_enum_itemC (Draws.text quiet it x t) he st.txt more ne (fun m => ne (List.mem_singleton.mp m)) fun w1 g tk src out s1 gT _ rest => ?_
    obtain ⟨c, t1, hc, rfl⟩ := src
    have elt := st.lt e (List.mem_cons_self ..)
    refine ⟨_, rfl, wpAny_letOwnedTupleGo_enum (s := { s with heap := g, toks := tk + 1 }) out fun g' en' but => ?_⟩
    have gT' := (but.2 _ (Nat.ne_of_gt elt)).trans gT
    have pair : ObjOk X.prog X.w (upd H s.heap.objs.size (.tup [.int (i : Nat), .str ⟨#[c]⟩])) g' s.heap.objs.size (.tup [.int (i : Nat), .str ⟨#[c]⟩]) := ⟨by show 2 ≤ sizeLine; decide, [.int (i : Nat) tk, .str ⟨#[c]⟩ t1], .cons ⟨tk, rfl⟩ (.cons ⟨t1, rfl⟩ .nil), ⟨_, gT', rfl, _, rfl⟩⟩
    have far : ∀ c' o, c' ∉ [e, it] → s.heap.get? c' = some o → g'.get? c' = some o := fun c' o n q => by
      obtain ⟨n1, n2⟩ := off2 n
      exact (but.2 c' n1).trans (rest c' o n1 n2 q)
    refine ⟨.ref s.heap.objs.size, _, I.turnedNew (t' := tk + 1) (ch := [e, it]) far free (Nat.le_refl _) pair, rfl, ⟨_, c, rfl, I.hok.fresh (Nat.le_refl _), rfl, hc⟩, ?_, fun c' m => ?_⟩
    · obtain ⟨p1, q1, r1⟩ := s1
      refine ⟨⟨.str ⟨#[c]⟩ t1, ?_⟩, ⟨p1, (but.2 _ ne.symm).trans q1, r1⟩⟩
      rw [show ((i + 1 : Nat) : Int) = (i : Int) + 1 by omega]
      exact en'
    · exact (upd_ne (Nat.ne_of_lt (st.lt c' m))).trans (free c' m).1
  done := by
    intro X e1 e2 e3 calm i pins s σ H E I free st over
    subst e1 e2 e3
    have over : i = x.cps.size := over
    subst over
    have quiet : X.A.in1.handled = none := I.ok.hd calm
    obtain ⟨old, he⟩ := st.en
    exact wpAny_pyNext_enum_endD (Draws.text quiet it x t) he st.txt fun g rest => ⟨rfl, I.turnedL (t' := s.toks) (ch := [e, it]) (fun c o n q => rest c o (off2 n).2 q) free⟩
def iEnS (te : TE) : TI := fun σ H R => te σ H fun v H1 => ∃ x, v = .str x ∧ R (ItEn x) H1
theorem pi_enS {X : Cx} {d : Expr} {te : TE} {p pos tpos : Pos} {elts : List Expr} {kk : Nat} (hg : Gl X "enumerate") (hm : X.mg "enumerate" = none) (ha : PE X d te) (flat : starEach [d] X.env = (false, eval d X.env) :: starEach [] X.env := by rfl)
    (plain : (backTo pos (starEach [] X.env)).any (·.1) = false := by rfl) : PI X (.Tuple elts kk tpos) (.Call (.Name "enumerate" p) [d] [] pos) (iEnS te) where
  run := fun pins s σ H R I start => by
    have one : PA X [d] (tCons te tNil) := pa_cons (hs := flat) ha pa_nil
    refine Call_ (ld_blt I hg hm PyProof.Rows.boot_enumerate (PyProof.Rows.callWith_type1 (thn (one.run pos pins s σ H (fun vs H1 => ∃ x, vs = [.str x] ∧ R (ItEn x) H1) I ?st) fun us s1 ⟨vs, H1, J, r, q⟩ => ?_) flat plain))
    case st =>
      show te σ H fun v H1 => ∃ x, [v] = [V.str x] ∧ R (ItEn x) H1
      have : (fun v H1 => ∃ x, v = V.str x ∧ R (ItEn x) H1) = fun v H1 => ∃ x, [v] = [V.str x] ∧ R (ItEn x) H1 := by
        funext v H1
        simp
      rw [← this]
      exact start
    obtain ⟨x, ev, go⟩ := q
    subst ev
    cases r with | cons q1 q2 => ?_
    cases q2
    obtain ⟨t, rfl⟩ := q1
    have young : ∀ j, FpOk X pins H1 (s1.heap.objs.size + j) := fun j => J.fpOk (Nat.le_add_right ..) (J.hok.fresh (Nat.le_add_right ..))
    refine call_enumerate_str fun g gE g1 _ rest => wpAny_pyIter_enum gE ?_
    exact ⟨s1.heap.objs.size + 1, _, CountAt x t (s1.heap.objs.size + 1) s1.heap.objs.size, ItEn x, H1, rfl, J.kept (t' := s1.toks) rest, turn_enS (Nat.succ_ne_self _), ⟨⟨_, gE⟩, g1⟩, two (young 1) (young 0), go⟩
/-! repr of what can be read, where no object is being shown -/
def rRepr (K : PySem.W.Frag) : List V → Hp → VK → Prop := fun xs H Q => ∃ (p : Addr) (d : PyData), xs = [.ref p] ∧ Dp K H (.ref p) d ∧ d.showable = true ∧ d.hasDict = false ∧ d.depth ≤ 60 ∧ d.shown.length ≤ sizeLine ∧ Q (.str d.shown) H
theorem call_reprD {X : Cx} (hg : X.A.guards = some []) (hu : X.A.units + 64 < cLine) : CallR X (.builtin "repr") (rRepr X.K) := by
  intro pins s σ H xs us Q I r start
  obtain ⟨p, d, rfl, hd, h1, h2, h3, h4, q⟩ := start
  obtain ⟨u, rfl, ru⟩ := r.one
  obtain ⟨as, reads⟩ := Dp.reads I d (.ref p) u hd ru
  obtain rfl : u = Value.ref p := ru
  exact repr_of_reads' reads h1 (fun h => by rw [h2] at h; cases h) hg (by omega) (fun _ _ e => e) (fun g t tk rest => ⟨.str d.shown, H, I.kept (t' := tk) rest, ⟨t, rfl⟩, q⟩) h4
end KX
set_option Elab.async false
set_option linter.all false
set_option maxRecDepth 100000
set_option maxHeartbeats 4000000
namespace KX
open PySem PySem.Spec PyProof.Rows L2 Evl
local macro_rules | `(tactic| walk_at "ev") => `(tactic| repeat' (first | exact ev_c | exact ev_var rfl | exact rv_I0 | refine' rv_I ?_ | refine' rv_eq ?_ | refine' rv_ne ?_ | refine' ev_op ?_ ?_ ?_ | exact ea_nil | refine' ea_cons ?_ ?_ | refine' et_test ?_ | refine' et_B ?_ | refine' et_not ?_ | refine' ev_notV ?_))

open PySem
/-! a law that is run at the top alone: no object is being shown there -/
/-- a def, run in the surrounding A -/
def RunAt (P : Program) (w : World) (K : PySem.W.Frag) (mg : Str → Option Value) (base : Heap) (A : Around) (f : Addr) (fd : FuncData) (ps : List Str) (sp : Sp) : Prop :=
  ∀ (outer : List Env) (s : Shared) (H : Hp) (args : Args) (us : List Value) (vs : List V) (Q : VK) (E : XK), Env0 P w K mg base A outer s H → BindsTo s fd args (ps.zip us) → Vals vs us → sp vs H Q E →
    codeAny (model P w) A (.call (.ref f) args) (CR CX0 outer P w H s Q E) s
theorem Fun.runAt {P : Program} {w : World} {K : PySem.W.Frag} {mg : Str → Option Value} {base : Heap} {A : Around} {x qual : Str} {st : Stmt} {f : Addr} {fd : FuncData} {N ps : List Str} {k : Nat} {sp : Sp} (F : Fun K x qual st f fd) (S : FnScope N ps (defScope st)) (room : Room (k + 1) A)
    (len : ∀ vs H Q E, sp vs H Q E → vs.length = ps.length)
    (body : ∀ (cdv : Value) (outer : List Env) (s : Shared) (H : Hp) (vs : List V) (Q : VK) (E : XK), Room k (A.deeper (envOfC qual (defScope st) s.heap.objs.size f cdv)) → sp vs H Q E →
      ∃ t, PSs (cxOf CX0 P w K mg base N qual (defScope st) f cdv A outer s H E).nox (defBody st) t ∧ t { nx := fun _ H' => Q .non H', rt := Q } (start N vs) H) : RunAt P w K mg base A f fd ps sp := by
  intro outer s H args us vs Q E e0 bind vals want
  obtain ⟨oc, od, kV, doc, pm, an, cdv, ct, osl, rfl, at_, code⟩ := F.ex
  have many := len _ _ _ _ want
  have inK : K.In s.heap := e0.mod.kin.keeps fun b o q => (e0.bs b o q).1
  have free : s.heap.NoLimit := e0.mod.nolimit.keeps fun b o q => (e0.bs b o q).1
  have kinds : ∀ y ∈ ps.zip us, (defScope st).names.lookup y.1 = some .local ∨ ((defScope st).names.lookup y.1 = some .cell ∧ ((cellsFrom (s.heap.objs.size + 1) (defScope st).names []).lookup y.1).isSome = true) := fun y hy =>
    (S.par y.1 (List.of_mem_zip hy).1).imp id fun q => ⟨q, PySem.W.cellsFrom_some _ _ _ (.inl q)⟩
  refine codeAny_call_function room.depth (inK _ _ at_) rfl S.co S.gen rfl (PySem.W.codeRec_of inK code) (bind _ _ _ _ ?_)
  refine wpAny_newFunctionEnv_cells S.kind kinds fun env he s1 call => ?_
  subst he
  obtain ⟨t, does, reads⟩ := body cdv outer s H vs Q E (room.deeper _) want
  refine ⟨free.keeps call.toInCall.keep, codeAny_func (wpAny_mono (does.nox.run [] s1 (start N vs) H _ (inv_start S room.hd e0 many vals call) reads) (fun fl s' ends => ?_) fun _ _ q => q)⟩
  cases fl with
  | ret u => exact let ⟨v, σ', H', J, rv, q⟩ := ends; ⟨v, H', J.os, J.bare, J.base, J.hok, rv, q⟩
  | next => exact let ⟨σ', H', J, q⟩ := ends; ⟨.non, H', J.os, J.bare, J.base, J.hok, rfl, q⟩
  | brk => exact let ⟨_, _, _, q⟩ := ends; False.elim q
  | cont => exact let ⟨_, _, _, q⟩ := ends; False.elim q
/-- the heap that the law is told: the script alone, if it is none of the written objects -/
theorem told {P : Program} {w : World} {K : PySem.W.Frag} {h : Heap} {a : Addr} {vs : List Value} {ns : List Int} (inK : K.In h) (ha : h.get? a = some { cls := .type "list", data := .seq vs.toArray }) (hi : IntsAre vs ns) (hl : ns.length ≤ sizeLine) :
    ∃ H : Hp, Only H ∧ SqL K H a (ns.map V.int) ∧ HOk P w H h ∧ (∀ b, H b ≠ none → b = a) ∧ (H a ≠ none → K.lookup a = none) := by
  have rv := vals_ints hi
  cases hk : K.lookup a with
  | some o =>
    obtain rfl : o = { cls := .type "list", data := .seq vs.toArray } := Option.some.inj ((inK a o hk).symm.trans ha)
    exact ⟨fun _ => none, fun _ => .inl rfl, .inr ⟨_, vs.toArray, _, hk, rfl, rfl, rfl, by rw [List.size_toArray, hi.length]; exact hl, by simpa using rv⟩, fun b u z => (nomatch (show (none : Option HO) = some u from z)), fun b z => absurd rfl z, fun z => absurd rfl z⟩
  | none =>
    let fr : HO := .frz { cls := .type "list", data := .seq vs.toArray } (.lst (ns.map V.int))
    refine ⟨fun b => if b = a then some fr else none, fun b => ?_, .inl (.inr ⟨_, if_pos rfl⟩), fun b u z => ?_, fun b z => Classical.byContradiction fun n => z (if_neg n), fun _ => rfl⟩
    · by_cases e : b = a
      · exact .inr ⟨_, _, if_pos e⟩
      · exact .inl (if_neg e)
    · by_cases e : b = a
      · subst e
        obtain rfl : fr = u := Option.some.inj ((if_pos rfl).symm.trans z)
        have few : (ns.map V.int).length ≤ sizeLine := by rw [List.length_map]; exact hl
        exact ⟨ha, few, vs, _, rv, ha⟩
      · exact nomatch (if_neg e).symm.trans z
theorem top_call {P : Program} {w : World} {K : PySem.W.Frag} {mg mb : Str → Option Value} {fa a : Addr} {fd : FuncData} {x : Str} {sp : Sp} {s₁ : Shared} {vs : List Value} {ns : List Int} (inK : K.In s₁.heap) (names : s₁.heap.Ns mainGlobals mg) (hb : s₁.heap.Ns builtinsNs mb)
    (boot : ∀ x : Str, x ≠ "__name__" → mb x = bootBuiltins x) (free : s₁.heap.NoLimit) (hg : s₁.gens = #[]) (ha : s₁.heap.get? a = some { cls := .type "list", data := .seq vs.toArray }) (hi : IntsAre vs ns) (hl : ns.length ≤ sizeLine)
    (F : ∀ base : Heap, K.In base → base.Ns mainGlobals mg → RunAt P w K mg base callerA fa fd [x] sp) (bind : ∀ (s : Shared) (u : Value), BindsTo s fd ⟨[u], []⟩ [(x, u)]) (want : ∀ H : Hp, Only H → SqL K H a (ns.map V.int) → sp [.ref a] H (fun v _ => v = .bl true) fun _ _ _ => False) :
    codeAny (model P w) callerA (.call (.ref fa) ⟨[.ref a], []⟩)
      (fun r s' => r = .ok (.ret (.bool true)) ∧ OldK s₁.heap s'.heap ∧ s'.os = s₁.os ∧ AllBare s'.gens) s₁ := by
  obtain ⟨H, only, seq, hok, here, lone⟩ := told (P := P) (w := w) inK ha hi hl
  have out : ∀ {b : Addr} {o : Obj}, s₁.heap.get? b = some o → b ≠ a → (hidT s₁.heap H).get? b = some o := fun g n => hidT_get g (Classical.byContradiction fun z => n (here _ z))
  have apart : ∀ {b : Addr} {o : Obj} {es : Array DictEntry} {ep : Nat}, s₁.heap.get? b = some o → o.data = .dict es ep → b ≠ a := fun g d z => by
    subst z
    rw [ha] at g
    cases g
    exact nomatch d
  have ns' : ∀ {b : Addr} {m : Str → Option Value}, s₁.heap.Ns b m → (hidT s₁.heap H).Ns b m := fun ⟨o, es, ep, g, d, r⟩ => ⟨o, es, ep, out g (apart g d), d, r⟩
  have inB : K.In (hidT s₁.heap H) := fun b o q => hidT_get (inK b o q) (Classical.byContradiction fun z => by
    obtain rfl := here b z
    rw [lone z] at q
    cases q)
  have free' : (hidT s₁.heap H).NoLimit := let ⟨mc, h1, h2⟩ := free; ⟨mc, ns' h1, h2⟩
  have e0 : Env0 P w K mg (hidT s₁.heap H) callerA [] s₁ H := ⟨rfl, ⟨inB, ns' names, ⟨mb, ns' hb, boot⟩, free'⟩, fun b o q => of_hidT q, Nat.le_of_eq (hidT_size _ _), trivial, fun b m => absurd (show b ∈ ([] : List Addr) from m) List.not_mem_nil, hok, .of_eq hg⟩
  refine codeAny_mono (F _ inB (ns' names) [] s₁ H ⟨[.ref a], []⟩ [.ref a] [.ref a] _ _ e0 (bind s₁ (.ref a)) (.cons rfl .nil) (want H only seq)) fun r s' got => ?_
  match r, got with
  | .error e, got => exact False.elim got
  | .ok .next, got => exact False.elim got
  | .ok .brk, got => exact False.elim got
  | .ok .cont, got => exact False.elim got
  | .ok (.ret u), ⟨v, H', os, bare, un, hok', rv, q⟩ =>
    obtain rfl : v = .bl true := q
    obtain rfl : u = Value.bool true := rv
    refine ⟨rfl, OldK.of_keep fun b o g => ?_, os, bare⟩
    rcases only b with z | ⟨ob, xs, z⟩
    · exact un.keep b o g z (fun m => absurd (show b ∈ ([] : List Addr) from m) List.not_mem_nil) List.not_mem_nil
    · obtain ⟨e1, _⟩ := hok b _ z
      obtain ⟨e2, _⟩ := hok' b _ (un.frzs b ob _ z)
      rw [g] at e1
      cases e1
      exact e2
theorem walk_top {l : PySem.W.OpenLaw} {n : Nat} {q : Program} {loose : List Str} {XP : (Str → Option Value) → Heap → Prop} {YP : World → Heap → Prop} {d : DefRec} {K : Params → PySem.W.Frag} {sp : World → Sp} {x : Str} (hn : l.most = some n) (hn2 : n ≤ sizeLine) (hdf : d.params.defaults = [])
    (hY : ∀ (w : World) (h : Heap), YP w h → (K w.params).In h)
    (F : ∀ (w : World) (mg : Str → Option Value) (fa : Addr) (h : Heap), (K w.params).In h → h.Ns mainGlobals mg → mg d.name = some (.ref fa) →
      ∃ fd : FuncData, (∀ (s : Shared) (u : Value), BindsTo s fd ⟨[u], []⟩ [(x, u)]) ∧ ∀ base : Heap, (K w.params).In base → base.Ns mainGlobals mg → RunAt l.prog w (K w.params) mg base callerA fa fd [x] (sp w))
    (want : ∀ (w : World) (H : Hp) (a : Addr) (ns : List Int), ns.length ≤ n → Only H → SqL (K w.params) H a (ns.map V.int) → sp w [.ref a] H (fun v _ => v = .bl true) fun _ _ _ => False) :
    PySem.W.WalkO q loose XP YP l.row.toRowW d [] (fun f vs => PySem.call f vs) :=
  Att.attach_call hn hdf fun w s₀ s₁ mg mb fa o pm cd doc a vs ns G Y ho hd hcd hmg hobj hints hlen hg => by
    obtain ⟨fd, hb, hF⟩ := F w mg fa _ (hY w _ Y) G.T.g hmg
    exact top_call (hY w _ Y) G.T.g G.T.b G.T.builtins G.T.nolimit hg hobj hints (Nat.le_trans hlen hn2) hF hb fun H only seq => want w H a ns hlen only seq
end KX
set_option Elab.async false
set_option linter.all false
set_option maxRecDepth 100000
set_option maxHeartbeats 4000000
namespace KX
open PySem PySem.Spec PyProof.Rows L2 Evl
local macro_rules | `(tactic| walk_at "ev") => `(tactic| repeat' (first | exact ev_c | exact ev_var rfl | exact rv_I0 | refine' rv_I ?_ | refine' rv_eq ?_ | refine' rv_ne ?_ | refine' ev_op ?_ ?_ ?_ | exact ea_nil | refine' ea_cons ?_ ?_ | refine' et_test ?_ | refine' et_B ?_ | refine' et_not ?_ | refine' ev_notV ?_))

open PySem
/-! x(e, ..), x(*e): a class that a local name holds -/
def tMakeV (i : Nat) (C : Addr) (sp : Sp) (E : XK) (t : TA) : TE := fun σ H Q => σ[i]? = some (some (.ref C)) ∧ StX.tMakeR C sp E t σ H Q
section
variable {X : Cx} {CX : CXT} {k i : Nat} {f C : Addr} {sp : Sp} {E : XK} {x : Str} {e : Expr} {es : List Expr} {te : TE} {t : TA} {p q pos : Pos}
theorem pe_makeV (M : Mk X.K C f) (F : FnR X.prog X.w X.K X.mg X.base CX k f sp) (room : Room (k + 1) X.A) (hx : Passes CX X E) (hN : X.N[i]? = some x) (hv : Vis X.env.scope x) (ha : PA X (e :: es) t) (hd : (x == ("__debug__" : Str)) = false := by decide)
    (hcd : (x == ("__classdict__" : Str)) = false := by decide) (first : starEach (e :: es) X.env = (false, eval e X.env) :: starEach es X.env := by rfl) (plain : (backTo pos (starEach es X.env)).any (·.1) = false := by rfl) :
    PE X (.Call (.Name x p) (e :: es) [] pos) (tMakeV i C sp E t) where
  run := fun pins s σ H Q I ⟨here, go⟩ => by
    refine wpAny_Call_Name_kw (thn ((pe_var (pos := p) (i := i) hN hv hd hcd).run pins s σ H (fun v H1 => v = .ref C ∧ H1 = H) I ⟨.ref C, here, rfl, rfl⟩) fun u s1 ⟨v, H1, I1, r1, ev, eH⟩ => ?_)
    subst ev eH
    obtain rfl : u = Value.ref C := r1
    exact PySem.W.callWith_K (h₀ := X.base) I.ok.mod.kin M.kp (thn (ha.run pos pins s1 σ _ _ I1 go) fun us s2 ⟨vs, H2, I2, r, want⟩ => ⟨I2.kIn, StX.run_makeR M F room hx I2 r want⟩) first plain
theorem pe_makeVS (M : Mk X.K C f) (F : FnR X.prog X.w X.K X.mg X.base CX k f sp) (room : Room (k + 1) X.A) (hx : Passes CX X E) (hN : X.N[i]? = some x) (hv : Vis X.env.scope x) (he : PE X e te) (hd : (x == ("__debug__" : Str)) = false := by decide)
    (hcd : (x == ("__classdict__" : Str)) = false := by decide) (star : starEach [.Starred e q] X.env = [(true, eval e X.env)] := by rfl) :
    PE X (.Call (.Name x p) [.Starred e q] [] pos) (tMakeV i C sp E fun σ H Q => te σ H fun y H1 => ∃ b xs, y = V.ref b ∧ (SqT X.K H1 b xs ∨ SqL X.K H1 b xs) ∧ Q xs H1) where
  run := fun pins s σ H Q I ⟨here, go⟩ => by
    refine wpAny_Call_Name_kw (thn ((pe_var (pos := p) (i := i) hN hv hd hcd).run pins s σ H (fun v H1 => v = .ref C ∧ H1 = H) I ⟨.ref C, here, rfl, rfl⟩) fun u s1 ⟨v, H1, I1, r1, ev, eH⟩ => ?_)
    subst ev eH
    obtain rfl : u = Value.ref C := r1
    refine PySem.W.callWith_S (h₀ := X.base) I.ok.mod.kin M.kp (thn (he.run pins s1 σ _ _ I1 go) fun v s2 ⟨y, H2, I2, ry, b, xs, ey, sq, want⟩ => ?_) star
    subst ey
    obtain rfl : v = Value.ref b := ry
    exact StX.star_any I2 sq fun us s3 I3 rv => ⟨I3.kIn, StX.run_makeR M F room hx I3 rv want⟩
end
/-! ### the tables of some clauses -/
abbrev Cl := Str × Str × Str
def clOk (c : Cl) : Prop := c.1 ∈ allWho ∧ c.2.1 ∈ allSign ∧ c.2.2 ∈ allw
def foldT (cs : List Cl) (k i : Nat) : Nat := cs.foldl (fun (v : Nat) (c : Cl) => tabF c.1 c.2.1 c.2.2 k v) i
theorem foldT_low : ∀ (cs : List Cl), (∀ c ∈ cs, clOk c) → ∀ k, Low (foldT cs k)
  | [], _, k => fun i h => h
  | c :: cs, ok, k => fun i h => foldT_low cs (fun d m => ok d (List.mem_cons_of_mem _ m)) k _ (tab_low (ok c (List.mem_cons_self ..)).1 k i h)
theorem foldT_snoc (cs : List Cl) (c : Cl) (k i : Nat) : foldT (cs ++ [c]) k i = tabF c.1 c.2.1 c.2.2 k (foldT cs k i) := by
  unfold foldT
  rw [List.foldl_append]
  rfl
/-- the clauses cs stand, in order, at ps -/
def ClsAt (K : PySem.W.Frag) (a : Ads) (H : Hp) (ps : List Addr) (cs : List Cl) : Prop := ps.length = cs.length ∧ ∀ (i : Nat) (p : Addr) (c : Cl), ps[i]? = some p → cs[i]? = some c → ClauseAt K a H p c.1 c.2.1 c.2.2
theorem ClsAt.mono {K : PySem.W.Frag} {a : Ads} {H H' : Hp} {ps : List Addr} {cs : List Cl} (m : ClsAt K a H ps cs) (e : Ex H H') : ClsAt K a H' ps cs := ⟨m.1, fun i p c h1 h2 => (m.2 i p c h1 h2).mono e⟩
theorem TabR.mono {K : PySem.W.Frag} {H H' : Hp} {t : Addr} {f : Nat → Nat → Nat} (h : TabR K H t f) (e : Ex H H') : TabR K H' t f := Tab.mono h e
def spTabs (K : PySem.W.Frag) (a : Ads) : Sp := fun vs H Q _ => ∃ (t : Addr) (ps : List Addr) (cs : List Cl), vs = [.ref t] ∧ SqT K H t (ps.map V.ref) ∧ ClsAt K a H ps cs ∧ (∀ c ∈ cs, clOk c) ∧ ∀ p H', Ex H H' → TabR K H' p (foldT cs) → Q (.ref p) H'
section
variable {P : Program} {w : World} {K : PySem.W.Frag} {mg : Str → Option Value} {base : Heap} {a : Ads}
theorem ok_tables_of (T : Txt w K mg a) : FnOk P w K mg base CX0 3 a.f_tables_of a.d_tables_of ["clauses"] (spTabs K a) := by
  have G_in_turn : FnOk P w K mg base CX0 1 _ _ _ _ := ok_in_turn T T.fn_in_turn
  refine T.fn_tables_of.ok sc_tables_of (fun vs H Q E h => ?_) (fun cdv A outer s H vs Q E hr h => ?_)
  · obtain ⟨_, _, _, rfl, _⟩ := h
    rfl
  · obtain ⟨t, ps, cs, rfl, ht, hc, ok, k⟩ := h
    have hrc : Room 1 _ := hr.mono (by decide)
    refine ⟨_, (pss_cons (ps_set (i := 1) sc_tables_of.nd rfl (Or.inl rfl) (pe_tup (pa_cons (pe_glob (v := .ref a.k_PATTERNS) rfl T.mg_PATTERNS rfl) (pa_cons (pe_glob (v := .ref a.k_PATTERNS) rfl T.mg_PATTERNS rfl) (pa_cons (pe_glob (v := .ref a.k_PATTERNS) rfl T.mg_PATTERNS rfl) (pa_cons (pe_glob (v := .ref a.k_PATTERNS) rfl T.mg_PATTERNS rfl) pa_nil))))))
    (pss_cons (ps_for PassesOwn.never rfl (pi_tup (pv 0)) (pg_name (i := 2) sc_tables_of.nd rfl (Or.inl rfl)) (pss_one (ps_set (i := 1) sc_tables_of.nd rfl (Or.inl rfl) (pe_call G_in_turn hrc rfl T.mg_in_turn T.fn_in_turn.kp (bd_in_turn T) .nil pass0 (pa_cons (pv 1) (pa_cons (pe_fld (pv 2) rfl) pa_nil))))))
    (pss_one (ps_ret (pv 1))))), ?_⟩
    refine q_asgU (eu_tup (ea_cons ev_c (ea_cons ev_c (ea_cons ev_c (ea_cons ev_c ea_nil)))) (by show 4 ≤ 100000; decide)) fun t0 H1 _ e1 h1 => ?_
    have row0 : ∀ H', SqT K H' a.k_PATTERNS (rowV (foldT [] 0)) := fun H' => T.t_PATTERNS H'
    refine q_forT (ev_var rfl) (ex_t e1 ht) (fun i σ' H' => ∃ tb o2, σ' = [some (.ref t), some (.ref tb), o2] ∧ TabR K H' tb (foldT (cs.take i)) ∧ Ex H H') (fun H2 e2 => ⟨_, _, rfl, ⟨_, _, _, _, st_of (e2 _ _ h1), row0 _, row0 _, row0 _, row0 _⟩, e1.trans e2⟩) (fun i σ' H' _ q => ?_) (fun i x σ' H' hx q => ?_) (fun σ' H' q => ?_)
    · obtain ⟨_, _, _, _, e⟩ := q
      exact ex_t e ht
    · obtain ⟨tb, o2, rfl, tab, e⟩ := q
      rw [List.getElem?_map] at hx
      obtain ⟨p, hp, rfl⟩ := Option.map_eq_some_iff.mp hx
      have hi : i < cs.length := by rw [← hc.1]; exact (List.getElem?_eq_some_iff.mp hp).1
      have hci : cs[i]? = some cs[i] := by simp [hi]
      have cl := (hc.2 i p cs[i] hp hci).mono e
      obtain ⟨dx, ct, ho, ctab⟩ := cl.ob
      have hA : EvA (tCons (tVar 1) (tCons (tFld K (tVar 2) "_tables") tNil)) [some (.ref t), some (.ref tb), some (.ref p)] H' [.ref tb, .ref ct] := ea_cons (ev_var rfl) (ea_cons (ev_fld (ev_var rfl) ho T.c_Clause T.n_tables_Clause (fs_tables _ _ _ ct)) ea_nil)
      show tCall (spTurn K) [] E0 (tCons (tVar 1) (tCons (tFld K (tVar 2) "_tables") tNil)) [some (.ref t), some (.ref tb), some (.ref p)] H' _
      refine hA H' (Ex.refl _) _ fun H2 e2 => ⟨tb, ct, _, fun k => tabF cs[i].1 cs[i].2.1 cs[i].2.2 k, rfl, tab.mono e2, Tab.mono ctab e2, foldT_low _ fun c m => ok c (List.mem_of_mem_take m), fun t' H3 e3 tab' => ⟨t', _, rfl, ?_, (e.trans e2).trans e3⟩⟩
      rw [show cs.take (i + 1) = cs.take i ++ [cs[i]] by rw [List.take_succ, hci]; rfl]
      have eqf : (fun k j => tabF cs[i].1 cs[i].2.1 cs[i].2.2 k (foldT (cs.take i) k j)) = foldT (cs.take i ++ [cs[i]]) := by
        funext k j
        rw [foldT_snoc]
      rw [← eqf]
      exact tab'
    · obtain ⟨tb, o2, rfl, tab, e⟩ := q
      rw [List.length_map, hc.1, List.take_length] at tab
      exact s_ret (v := .ref tb) (ev_var rfl) fun H2 e2 => k tb H2 (e.trans e2) (tab.mono e2)
end
end KX
set_option Elab.async false
set_option linter.all false
set_option maxRecDepth 100000
set_option maxHeartbeats 4000000
namespace KX
open PySem PySem.Spec PyProof.Rows L2 Evl
local macro_rules | `(tactic| walk_at "ev") => `(tactic| repeat' (first | exact ev_c | exact ev_var rfl | exact rv_I0 | refine' rv_I ?_ | refine' rv_eq ?_ | refine' rv_ne ?_ | refine' ev_op ?_ ?_ ?_ | exact ea_nil | refine' ea_cons ?_ ?_ | refine' et_test ?_ | refine' et_B ?_ | refine' et_not ?_ | refine' ev_notV ?_))

open PySem
section
variable {K : PySem.W.Frag} {σ : L2.St} {H H' : Hp} {ta tb te tx tv : TE} {t : TT} {x y z v : V} {r : R2} {D : Ends} {tz tu : TS}
theorem q_forEnS {s : Str} {i1 i2 : Nat} (h : Ev te σ H (.str s)) (Pv : Nat → L2.St → Hp → Prop) (h0 : ∀ H1, Ex H H1 → Pv 0 σ H1)
    (hs : ∀ (i c : Nat) σ' H', s.cps.toList[i]? = some c → Pv i σ' H' → ∀ H2, Ex H' H2 → tu { D with nx := Pv (i + 1), ct := Pv (i + 1), bk := tz D } ((σ'.set i1 (some (.int (i : Nat)))).set i2 (some (.str ⟨#[c]⟩))) H2) (hd : ∀ σ' H', Pv s.cps.size σ' H' → tz D σ' H') :
    tSeq (tFor (iEnS te) (gTup K 2 (gCons (gName i1) (gCons (gName i2) gNil))) tu) tz D σ H :=
  h H (Ex.refl H) _ fun H1 e1 => ⟨s, rfl, fun i m σ' H' => m = s.cps.size - i ∧ i ≤ s.cps.size ∧ Pv i σ' H', ⟨s.cps.size, by simp, Nat.zero_le _, h0 H1 e1⟩, by
    rintro i m σ' H' ⟨rfl, hi, p⟩
    by_cases hlt : i < s.cps.size
    · refine .inr ⟨hlt, Pv (i + 1), fun σ2 H2 p' => ⟨s.cps.size - (i + 1), by omega, rfl, hlt, p'⟩, ?_⟩
      rintro x H2 ⟨T, c, rfl, hT, rfl, hc⟩
      rw [← Array.getElem?_toList] at hc
      exact ⟨T, _, rfl, st_of upd_same, rfl, _, _, rfl, _, _, rfl, rfl, hs i c σ' H' hc p _ (Ex.new hT)⟩
    · have e : i = s.cps.size := by omega
      subst e
      exact .inl ⟨rfl, hd σ' H' p⟩⟩
theorem ev_slS {tl th : TO} {s : Str} {lo hi : Option Int} (h : Ev te σ H (.str s)) (h1 : EvO tl σ H lo) (h2 : EvO th σ H hi) (hz : s.length ≤ 100000) : Ev (tSl rSlS te tl th) σ H (.str (cutS s lo hi)) := fun H1 e Q q =>
  h H1 e _ fun H2 e2 => h1 H2 (e.trans e2) _ fun H3 e3 => h2 H3 ((e.trans e2).trans e3) _ fun H4 e4 => ⟨s, rfl, sz_of hz, q H4 ((e2.trans e3).trans e4)⟩
end
/-- a clause's text -/
def clT (who0 sign what : Str) : Str := ⟨who0.cps ++ sign.cps ++ what.cps⟩
def allWho0 : List Str := "a" :: allWho
def isSign (c : Nat) : Bool := inV (.str ⟨#[c]⟩) [.str "+", .str "-", .str "="]
theorem clT_facts : ∀ who0 ∈ allWho0, ∀ sign ∈ allSign, ∀ what ∈ allw, ((List.range who0.cps.size).all fun i => !isSign ((clT who0 sign what).cps.toList.getD i 0)) = true ∧ isSign ((clT who0 sign what).cps.toList.getD who0.cps.size 0) = true ∧
    (⟨#[(clT who0 sign what).cps.toList.getD who0.cps.size 0]⟩ : Str) = sign ∧ cutS (clT who0 sign what) none (some (who0.cps.size : Nat)) = who0 ∧ cutS (clT who0 sign what) (some ((who0.cps.size : Nat) + 1)) none = what ∧ who0.cps.size < (clT who0 sign what).cps.size ∧ (clT who0 sign what).length ≤ 100 := by decide +kernel
def spRead (K : PySem.W.Frag) (a : Ads) : Sp := fun vs H Q _ => ∃ (who0 who sign what : Str), vs = [.ref a.f_Clause, .str (clT who0 sign what)] ∧ (who0 = who ∨ (who0 = "a" ∧ who = "ugo")) ∧ who ∈ allWho ∧ sign ∈ allSign ∧ what ∈ allw ∧ ∀ p H', H p = none → Ex H H' → ClauseAt K a H' p who sign what → Q (.ref p) H'
section
variable {P : Program} {w : World} {K : PySem.W.Frag} {mg : Str → Option Value} {base : Heap} {a : Ads}
theorem ok_Clause_read (T : Txt w K mg a) : FnOk P w K mg base CX0 7 a.f_Clause_read a.d_Clause_read ["cls", "text"] (spRead K a) := by
  have G_Clause_init : FnOk P w K mg base CX0 5 _ _ _ _ := ok_Clause_init T
  refine T.fn_Clause_read.ok sc_Clause_read (fun vs H Q E h => ?_) (fun cdv A outer s H vs Q E hr h => ?_)
  · obtain ⟨_, _, _, _, rfl, _⟩ := h
    rfl
  · obtain ⟨who0, who, sign, what, rfl, hw0, hwho, hsign, hwhat, k⟩ := h
    have hrm : Room (5 + 1) _ := hr
    refine ⟨_, (pss_cons (ps_if (pt_not (pt_val (pe_callB call_isi (by rfl) T.b_isinstance PyProof.Rows.boot_isinstance (pa_cons (pv 1) (pa_cons (pe_bltn (v := .ty "str") (by rfl) T.b_str (by decide +kernel) rfl) pa_nil))))) (pss_one ps_never) pss_nil)
    (pss_cons (ps_for PassesOwn.never rfl (pi_enS (by rfl) T.b_enumerate (pv 1)) (pg_tup rfl (pgs_cons (pg_name (i := 2) sc_Clause_read.nd rfl (Or.inl rfl)) (pgs_cons (pg_name (i := 3) sc_Clause_read.nd rfl (Or.inl rfl)) pgs_nil))) (pss_one (ps_if (pt_cmpR op_in_seq (pv 3) (pe_glob (v := .ref a.k_SIGNS) rfl T.mg_SIGNS rfl) (by rfl)) (pss_one (ps_ret (pe_makeV (i := 0) T.mk_Clause (G_Clause_init.raw (bd_ClauseD_initD T) .nil) hrm pass0 rfl (Or.inl rfl) (pa_cons (pe_slice sl_str (pv 1) po_none (po_some (pv 2))) (pa_cons (pv 3) (pa_cons (pe_slice sl_str (pv 1) (po_some (pe_op op_add (pv 2) pe_int)) po_none) pa_nil)))))) pss_nil)))
    (pss_one ps_never))), ?_⟩
    have hin : who0 ∈ allWho0 := by
      rcases hw0 with rfl | ⟨rfl, _⟩
      · exact List.mem_cons_of_mem _ hwho
      · exact List.mem_cons_self ..
    obtain ⟨f1, f2, f3, f4, f5, f6, f7⟩ := clT_facts who0 hin sign hsign what hwhat
    refine q_when (b := false) (et_not (a := true) (et_B (ev_isi (ea_cons (ev_var rfl) (ea_cons ev_c ea_nil)) (.ty _) (fun _ _ => .base (.str _)) (kit_ty (by decide +kernel))))) (fun z => nomatch z) fun _ H1 e1 => ?_
    refine q_forEnS (K := K) (ev_var rfl) (fun i σ' H' => i ≤ who0.cps.size ∧ Ex H H' ∧ ∃ o2 o3, σ' = [some (.ref a.f_Clause), some (.str (clT who0 sign what)), o2, o3]) (fun H2 e2 => ⟨Nat.zero_le _, e1.trans e2, _, _, rfl⟩) (fun i c σ' H' hc q H2 e2 => ?_) (fun σ' H' q => ?_)
    · obtain ⟨hi, e, o2, o3, rfl⟩ := q
      have hcd : (clT who0 sign what).cps.toList.getD i 0 = c := by simp [List.getD, hc]
      refine s_when (b := isSign c) (et_test (ev_op (ev_var rfl) ev_c (rv_isT (T.t_SIGNS _) rfl rfl))) (fun hb H3 e3 => ?_) (fun hb H3 e3 => ?_)
      · have hn : i = who0.cps.size := by
          rcases Nat.lt_or_ge i who0.cps.size with lt | ge
          · have := List.all_eq_true.mp f1 i (List.mem_range.mpr lt)
            rw [hcd, hb] at this
            cases this
          · omega
        subst hn
        rw [hcd] at f3
        have hA : EvA (tCons (tSl rSlS (tVar 1) tNoPart (tPart (tVar 2))) (tCons (tVar 3) (tCons (tSl rSlS (tVar 1) (tPart (tOp (rI0 fun i j => .int (i + j)) (tVar 2) (tC (.int 1)))) tNoPart) tNil))) [some (.ref a.f_Clause), some (.str (clT who0 sign what)), some (.int (who0.cps.size : Nat)), some (.str ⟨#[c]⟩)] H3 [.str who0, .str sign, .str what] :=
          ea_cons (ev_is (ev_slS (ev_var rfl) eo_none (eo_some (ev_var rfl)) (Nat.le_trans f7 (by decide))) (congrArg V.str f4)) (ea_cons (ev_is (ev_var rfl) (congrArg V.str f3)) (ea_cons (ev_is (ev_slS (ev_var rfl) (eo_some (ev_op (ev_var rfl) ev_c rv_I0)) eo_none (Nat.le_trans f7 (by decide))) (congrArg V.str f5)) ea_nil))
        refine ⟨rfl, hA H3 (Ex.refl _) _ fun H4 e4 x dx hx hdx hne => ⟨x, dx, who0, who, sign, what, rfl, hw0, hwho, hsign, hwhat, upd_same, fun H5 k5 c5 => ⟨rfl, ?_⟩⟩⟩
        have e04 : Ex H H4 := ((e.trans e2).trans e3).trans e4
        exact k x H5 (fresh_back e04 hx) (e04.trans fun b o hb => by
          have bx := ne_of_none hb hx
          have bdx := ne_of_none hb hdx
          exact k5 b o (by rw [upd_ne bx, upd_ne bdx]; exact hb) bx) c5
      · have hn : i ≠ who0.cps.size := fun z => by
          subst z
          rw [hcd, hb] at f2
          cases f2
        exact ⟨by omega, (e.trans e2).trans e3, _, _, rfl⟩
    · obtain ⟨hi, _⟩ := q
      omega
end
end KX
set_option Elab.async false
set_option linter.all false
set_option maxRecDepth 100000
set_option maxHeartbeats 4000000
namespace KX
open PySem PySem.Spec PyProof.Rows L2 Evl
local macro_rules | `(tactic| walk_at "ev") => `(tactic| repeat' (first | exact ev_c | exact ev_var rfl | exact rv_I0 | refine' rv_I ?_ | refine' rv_eq ?_ | refine' rv_ne ?_ | refine' ev_op ?_ ?_ ?_ | exact ea_nil | refine' ea_cons ?_ ?_ | refine' et_test ?_ | refine' et_B ?_ | refine' et_not ?_ | refine' ev_notV ?_))

open PySem
/-! the items of a tuple, counted -/
theorem enum1_meets {v : Value} {o : Obj} {St : Heap → Prop} (B : Begins v o St) : Meets (Builtin.«enumerate.__new__» ⟨[.type "enumerate", v], []⟩) (fun _ R s => St s.heap ∧
    R (.ok (.ret (.ref (s.heap.push o).objs.size))) { s with heap := (s.heap.push o).push { cls := .type "enumerate", data := .fields #[.none, .bool false, .ref s.heap.objs.size, rawInt 0, .none, .none] } }) :=
  .of_wp fun prog w A R ⟨hp, gn, dr, tk, os⟩ ⟨st, go⟩ => by
    have is_a := sub_enumerate
    have it1 : ∀ {A' : Around} {E Q : Value → Shared → Prop}, Q (.ref hp.objs.size) ⟨hp.push o, gn, dr, tk, os⟩ → wpAny (model prog w) A' (pyIter v) Q E ⟨hp, gn, dr, tk, os⟩ := fun q => B.iter prog w _ _ ⟨hp, gn, dr, tk, os⟩ _ st q
    wp_walk using it1
    refine wpAny_stack_any fun stack => wpAny_pure ?_
    split
    · rename_i c _ _ _ _ _
      cases (c == Value.type "enumerate") <;> (wp_walk using it1; exact ⟨_, rfl, go⟩)
    · wp_walk using it1
      exact ⟨_, rfl, go⟩
structure CountTo (b e it : Addr) (i : Nat) (h : Heap) : Prop where
  en : ∃ old, IsEnum h e it (i : Int) old
  tup : h.IsTupleIter it b i
section
variable {b e it : Addr} {i : Nat} {h h' : Heap}
theorem CountTo.obj (q : CountTo b e it i h) : ∀ c ∈ [e, it], ∃ o, h.get? c = some o ∧ ∀ v, o.data ≠ .cell v := by
  obtain ⟨old, he⟩ := q.en
  obtain ⟨p1, g1, _, n1⟩ := q.tup
  exact two ⟨_, he, nofun⟩ ⟨p1, g1, by rw [n1]; exact nofun⟩
theorem CountTo.lt (q : CountTo b e it i h) : ∀ c ∈ [e, it], c < h.objs.size := fun c m => let ⟨_, g, _⟩ := q.obj c m; Heap.lt_size g
theorem CountTo.keep (q : CountTo b e it i h) (k : ∀ c ∈ [e, it], ∀ o, h.get? c = some o → h'.get? c = some o) : CountTo b e it i h' := by
  obtain ⟨old, he⟩ := q.en
  refine ⟨⟨old, k e ?_ _ he⟩, q.tup.at fun o e => k it ?_ o e⟩ <;> simp
end
def ItEt (K : PySem.W.Frag) (b : Addr) : It :=
  ⟨fun i H => ∃ (ys : List V) (y : V), SqT K H b ys ∧ ys[i]? = some y, fun i H v H' => ∃ (T : Addr) (y : V), v = .ref T ∧ H T = none ∧ H' = upd H T (.tup [.int (i : Nat), y]) ∧ ∀ ys, SqT K H b ys → ys[i]? = some y, fun i H => ∃ ys : List V, SqT K H b ys ∧ i = ys.length⟩
theorem turn_enT {P : Program} {w : World} {K : PySem.W.Frag} {elts : List Expr} {kk : Nat} {tpos : Pos} {b e it : Addr} (ne : e ≠ it) (hb : b ≠ it) (hbe : e ≠ b) :
    Turn P w K (.Tuple elts kk tpos) (ItEt K b) [e, it] e (CountTo b e it) where
  mem := List.mem_cons_self ..
  obj := fun _ _ q => q.obj
  keep := fun _ _ _ q k => q.keep k
  self := fun _ _ _ _ _ q k => let ⟨_, he⟩ := q.en; wpAny_pyIter_enum he k
  item := by
    intro X e1 e2 e3 calm i pins s σ H E I free st more
    subst e1 e2 e3
    have quiet : X.A.in1.handled = none := I.ok.hd calm
    obtain ⟨ys, y, seq, hy⟩ := more
    obtain ⟨us, ru, isT, _⟩ := I.tuple seq
    obtain ⟨u, hu, ry⟩ := ru.get hy
    obtain ⟨old, he⟩ := st.en
    have in1 : i < us.toArray.size := by simpa using (List.getElem?_eq_some_iff.mp hu).1
    refine wpAny_pyNext_enum_itemC (Draws.tuple quiet it b hb us.toArray) he ⟨st.tup, isT⟩ in1 ne (fun m => by
      rcases List.mem_cons.mp m with z | m
      · exact ne z
      · exact hbe (List.mem_singleton.mp m)) fun w1 g tk src out s1 gT _ rest => ?_
    obtain rfl : u = w1 := Option.some.inj ((show us.toArray[i]? = some u by simpa using hu).symm.trans src)
    have elt := st.lt e (List.mem_cons_self ..)
    refine ⟨_, rfl, wpAny_letOwnedTupleGo_enum (s := { s with heap := g, toks := tk + 1 }) out fun g' en' but => ?_⟩
    have gT' := (but.2 _ (Nat.ne_of_gt elt)).trans gT
    have pair : ObjOk X.prog X.w (upd H s.heap.objs.size (.tup [.int (i : Nat), y])) g' s.heap.objs.size (.tup [.int (i : Nat), y]) := ⟨by show 2 ≤ sizeLine; decide, [.int (i : Nat) tk, u], .cons ⟨tk, rfl⟩ (.cons ry .nil), ⟨_, gT', rfl, _, rfl⟩⟩
    have far : ∀ c' o, c' ∉ [e, it] → s.heap.get? c' = some o → g'.get? c' = some o := fun c' o n q => by
      obtain ⟨n1, n2⟩ := off2 n
      exact (but.2 c' n1).trans (rest c' o n1 n2 q)
    refine ⟨.ref s.heap.objs.size, _, I.turnedNew (t' := tk + 1) (ch := [e, it]) far free (Nat.le_refl _) pair, rfl, ⟨_, y, rfl, I.hok.fresh (Nat.le_refl _), rfl, fun l hl => by rw [I.tuple_inj hl seq]; exact hy⟩, ?_, fun c' m => ?_⟩
    · refine ⟨⟨u, ?_⟩, s1.1.at fun o q => (but.2 _ ne.symm).trans q⟩
      rw [show ((i + 1 : Nat) : Int) = (i : Int) + 1 by omega]
      exact en'
    · exact (upd_ne (Nat.ne_of_lt (st.lt c' m))).trans (free c' m).1
  done := by
    intro X e1 e2 e3 calm i pins s σ H E I free st over
    subst e1 e2 e3
    obtain ⟨ys, seq, rfl⟩ := over
    obtain ⟨us, ru, isT, _⟩ := I.tuple seq
    have quiet : X.A.in1.handled = none := I.ok.hd calm
    have size : us.toArray.size = ys.length := by rw [ru.length]; simp
    obtain ⟨old, he⟩ := st.en
    refine wpAny_pyNext_enum_endD (Draws.tuple quiet it b hb us.toArray) he ⟨?_, isT⟩ fun g rest => ⟨rfl, I.turnedL (t' := s.toks) (ch := [e, it]) (fun c o n q => rest c o (off2 n).2 q) free⟩
    rw [size]
    exact st.tup
def iEnT (K : PySem.W.Frag) (te : TE) : TI := fun σ H R => te σ H fun v H1 => ∃ b ys, v = .ref b ∧ SqT K H1 b ys ∧ R (ItEt K b) H1
theorem pi_enT {X : Cx} {d : Expr} {te : TE} {p pos tpos : Pos} {elts : List Expr} {kk : Nat} (hg : Gl X "enumerate") (hm : X.mg "enumerate" = none) (ha : PE X d te) (flat : starEach [d] X.env = (false, eval d X.env) :: starEach [] X.env := by rfl)
    (plain : (backTo pos (starEach [] X.env)).any (·.1) = false := by rfl) : PI X (.Tuple elts kk tpos) (.Call (.Name "enumerate" p) [d] [] pos) (iEnT X.K te) where
  run := fun pins s σ H R I start => by
    have one : PA X [d] (tCons te tNil) := pa_cons (hs := flat) ha pa_nil
    refine Call_ (ld_blt I hg hm PyProof.Rows.boot_enumerate (PyProof.Rows.callWith_type1 (thn (one.run pos pins s σ H (fun vs H1 => ∃ b ys, vs = [.ref b] ∧ SqT X.K H1 b ys ∧ R (ItEt X.K b) H1) I ?st) fun us s1 ⟨vs, H1, J, r, q⟩ => ?_) flat plain))
    case st =>
      show te σ H fun v H1 => ∃ b ys, [v] = [V.ref b] ∧ SqT X.K H1 b ys ∧ R (ItEt X.K b) H1
      have : (fun v H1 => ∃ b ys, v = V.ref b ∧ SqT X.K H1 b ys ∧ R (ItEt X.K b) H1) = fun v H1 => ∃ b ys, [v] = [V.ref b] ∧ SqT X.K H1 b ys ∧ R (ItEt X.K b) H1 := by
        funext v H1
        simp
      rw [← this]
      exact start
    obtain ⟨b, ys, ev, seq, go⟩ := q
    subst ev
    cases r with | cons q1 q2 => ?_
    cases q2
    cases q1
    obtain ⟨ws, _, isT, _⟩ := J.tuple seq
    have bl : b < s1.heap.objs.size := let ⟨_, ho, _⟩ := id isT; Heap.lt_size ho
    have young : ∀ j, FpOk X pins H1 (s1.heap.objs.size + j) := fun j => J.fpOk (Nat.le_add_right ..) (J.hok.fresh (Nat.le_add_right ..))
    refine callType_new F.called_enumerate (by decide) (F.typeCall_enumerate_1 _) (F.newCall_enumerate_1 _) (fun obj => F.args_object_init_2 obj _) F.entry_enumerate_new (enum1_meets (begins_tuple b ws.toArray)) ⟨show s1.heap.IsTuple b ws.toArray from isT, ?_⟩
    have size : (s1.heap.push { cls := .type "tuple_iterator", data := .fields #[.ref b, .int 0 0] }).objs.size = s1.heap.objs.size + 1 := Heap.size_push ..
    show _ ∧ _
    rw [size]
    have new := Heap.get?_push_size (s1.heap.push { cls := .type "tuple_iterator", data := .fields #[.ref b, .int 0 0] }) (o := { cls := .type "enumerate", data := .fields #[.none, .bool false, .ref s1.heap.objs.size, rawInt 0, .none, .none] }) rfl
    rw [size] at new
    refine ⟨⟨_, new, rfl⟩, wpAny_pyIter_enum new ?_⟩
    exact ⟨s1.heap.objs.size + 1, _, CountTo b (s1.heap.objs.size + 1) s1.heap.objs.size, ItEt X.K b, H1, rfl, J.kept (t' := s1.toks) fun c o q => Heap.get?_push_of_some _ (Heap.get?_push_of_some _ q), turn_enT (Nat.succ_ne_self _) (Nat.ne_of_lt bl) (Nat.ne_of_gt (Nat.lt_succ_of_lt bl)), ⟨⟨_, new⟩, ⟨_, Heap.get?_push_of_some _ (Heap.get?_push_size _ rfl), rfl, rfl⟩⟩, two (young 1) (young 0), go⟩
end KX
set_option Elab.async false
set_option linter.all false
set_option maxRecDepth 100000
set_option maxHeartbeats 4000000
namespace KX
open PySem PySem.Spec PyProof.Rows L2 Evl
local macro_rules | `(tactic| walk_at "ev") => `(tactic| repeat' (first | exact ev_c | exact ev_var rfl | exact rv_I0 | refine' rv_I ?_ | refine' rv_eq ?_ | refine' rv_ne ?_ | refine' ev_op ?_ ?_ ?_ | exact ea_nil | refine' ea_cons ?_ ?_ | refine' et_test ?_ | refine' et_B ?_ | refine' et_not ?_ | refine' ev_notV ?_))

open PySem
section
variable {K : PySem.W.Frag} {σ : L2.St} {H H' : Hp} {ta tb te tx tv : TE} {t : TT} {x y z v : V} {r : R2} {D : Ends} {tz tu : TS}
theorem ev_lenT {p : Addr} {xs : List V} (h : Ev ta σ H (.ref p)) (seq : SqT K H p xs) : Ev (tCB (rLenS K) (tCons ta tNil)) σ H (.int (xs.length : Nat)) := fun H1 e Q q => h H1 e _ fun H2 e2 => ⟨p, xs, rfl, .inr (ex_t (e.trans e2) seq), q H2 e2⟩
theorem q_forEnT {b : Addr} {ys : List V} {i1 i2 : Nat} (h : Ev te σ H (.ref b)) (seq : SqT K H b ys) (Pv : Nat → L2.St → Hp → Prop) (h0 : ∀ H1, Ex H H1 → Pv 0 σ H1) (up : ∀ i σ' H', Pv i σ' H' → Ex H H')
    (hs : ∀ (i : Nat) (y : V) σ' H', ys[i]? = some y → Pv i σ' H' → ∀ H2, Ex H' H2 → tu { D with nx := Pv (i + 1), ct := Pv (i + 1), bk := tz D } ((σ'.set i1 (some (.int (i : Nat)))).set i2 (some y)) H2) (hd : ∀ σ' H', Pv ys.length σ' H' → tz D σ' H') :
    tSeq (tFor (iEnT K te) (gTup K 2 (gCons (gName i1) (gCons (gName i2) gNil))) tu) tz D σ H :=
  h H (Ex.refl H) _ fun H1 e1 => ⟨b, ys, rfl, ex_t e1 seq, fun i m σ' H' => m = ys.length - i ∧ i ≤ ys.length ∧ Pv i σ' H', ⟨ys.length, by simp, Nat.zero_le _, h0 H1 e1⟩, by
    rintro i m σ' H' ⟨rfl, hi, p⟩
    have now : SqT K H' b ys := ex_t (up i σ' H' p) seq
    by_cases hlt : i < ys.length
    · refine .inr ⟨⟨ys, ys[i], now, by simp [hlt]⟩, Pv (i + 1), fun σ2 H2 p' => ⟨ys.length - (i + 1), by omega, rfl, hlt, p'⟩, ?_⟩
      rintro x H2 ⟨T, y, rfl, hT, rfl, hy⟩
      exact ⟨T, _, rfl, st_of upd_same, rfl, _, _, rfl, _, _, rfl, rfl, hs i y σ' H' (hy ys now) p _ (Ex.new hT)⟩
    · have e : i = ys.length := by omega
      subst e
      exact .inl ⟨⟨ys, now, rfl⟩, hd σ' H' p⟩⟩
end
theorem exb_t {K : PySem.W.Frag} {H H' : Hp} {p C dx b : Addr} {fs : List (Str × V)} {xs : List V} (e : ExB p H H') (hp : H p = some (.ins C dx fs)) (h : SqT K H b xs) : SqT K H' b xs := by
  rcases h with (h | ⟨ob, h⟩) | h
  · exact .inl (.inl (e _ _ h fun z => by rw [z, hp] at h; cases h))
  · exact .inl (.inr ⟨ob, e _ _ h fun z => by rw [z, hp] at h; cases h⟩)
  · exact .inr h
theorem exb_tab {K : PySem.W.Frag} {H H' : Hp} {p C dx t : Addr} {fs : List (Str × V)} {f : Nat → Nat → Nat} (e : ExB p H H') (hp : H p = some (.ins C dx fs)) (h : TabR K H t f) : TabR K H' t f := by
  obtain ⟨t0, t1, t2, t3, h, h0, h1, h2, h3⟩ := h
  exact ⟨t0, t1, t2, t3, exb_t e hp h, exb_t e hp h0, exb_t e hp h1, exb_t e hp h2, exb_t e hp h3⟩
theorem ClauseAt.exb {K : PySem.W.Frag} {a : Ads} {H H' : Hp} {p q C dx : Addr} {fs : List (Str × V)} {who sign what : Str} (m : ClauseAt K a H q who sign what) (e : ExB p H H') (hp : H p = some (.ins C dx fs)) (hw : fs.lookup ("_who" : Str) = none) : ClauseAt K a H' q who sign what := by
  obtain ⟨d2, t, ho, tab⟩ := m.ob
  refine ⟨⟨d2, t, e _ _ ho fun z => ?_, exb_tab (f := fun k => tabF who sign what k) e hp tab⟩⟩
  subst z
  rw [hp] at ho
  cases ho
  rw [fs_who] at hw
  cases hw
theorem ClsAt.exb {K : PySem.W.Frag} {a : Ads} {H H' : Hp} {p C dx : Addr} {fs : List (Str × V)} {ps : List Addr} {cs : List Cl} (m : ClsAt K a H ps cs) (e : ExB p H H') (hp : H p = some (.ins C dx fs)) (hw : fs.lookup ("_who" : Str) = none) : ClsAt K a H' ps cs :=
  ⟨m.1, fun i q c h1 h2 => (m.2 i q c h1 h2).exb e hp hw⟩
/-- a change of the clauses cs stands at p -/
def ChangeAt (K : PySem.W.Frag) (a : Ads) (H : Hp) (p : Addr) (cs : List Cl) : Prop :=
  ∃ (dx ct tt : Addr) (ps : List Addr), H p = some (.ins a.f_Change dx (putF "_tables" (.ref tt) (putF "_clauses" (.ref ct) []))) ∧ SqT K H ct (ps.map V.ref) ∧ ClsAt K a H ps cs ∧ TabR K H tt (foldT cs)
theorem ChangeAt.mono {K : PySem.W.Frag} {a : Ads} {H H' : Hp} {p : Addr} {cs : List Cl} (m : ChangeAt K a H p cs) (e : Ex H H') : ChangeAt K a H' p cs := by
  obtain ⟨dx, ct, tt, ps, h1, h2, h3, h4⟩ := m
  exact ⟨dx, ct, tt, ps, e _ _ h1, ex_t e h2, h3.mono e, h4.mono e⟩
def spCInit (K : PySem.W.Frag) (a : Ads) : Sp := fun vs H Q _ => ∃ (p dx ct : Addr) (ps : List Addr) (cs : List Cl), vs = [.ref p, .ref ct] ∧ H ct = some (.tup (ps.map V.ref)) ∧ ClsAt K a H ps cs ∧ (∀ c ∈ cs, clOk c) ∧ 0 < cs.length ∧ cs.length ≤ 8 ∧ H p = some (.ins a.f_Change dx []) ∧
  ∀ H', ExB p H H' → ChangeAt K a H' p cs → Q .non H'
theorem scCh : FnScope n_ChangeD_initD ((["self"] : List Str) ++ [("clauses" : Str)]) (defScope s_ChangeD_initD) := ⟨rfl, rfl, rfl, by decide +kernel, rfl, by decide +kernel, by decide +kernel⟩
section
variable {P : Program} {w : World} {K : PySem.W.Frag} {mg : Str → Option Value} {base : Heap} {a : Ads}
theorem tyx_clause (T : Txt w K mg a) {H : Hp} {p : Addr} {who sign what : Str} (m : ClauseAt K a H p who sign what) : TyX K H (.ref p) (.ref a.f_Clause) := by
  obtain ⟨dx, t, h, _⟩ := m.ob
  exact .base (.ins h T.c_Clause T.ia_Clause T.in_ T.it_ T.im_Clause)
theorem ok_Change_init (T : Txt w K mg a) : FnR P w K mg base CX0 4 a.f_ChangeD_initD (fun vs H Q E => ∃ v rest, vs = v :: rest ∧ rest.length ≤ 5 ∧ ∀ p, H p = none → spCInit K a [v, .ref p] (upd H p (.tup rest)) Q E) := by
  have G_tables_of : FnOk P w K mg base CX0 3 _ _ _ _ := ok_tables_of T
  obtain ⟨oc, od, kV, doc, pm, an, cdv, ct0, osl, e0, lk, hcd⟩ := T.fn_ChangeD_initD.ex
  rw [e0] at lk
  refine fn_ofV (pa := "self") (pv := "clauses") (nmax := 5) lk hcd scCh (Nat.le_of_lt (small1000 (by decide))) (bindV_of (fun _ => rfl) (fun _ _ => rfl) (fun _ _ _ => rfl) (fun _ _ _ _ => rfl) (fun _ _ _ _ _ => rfl) (fun _ _ _ _ _ _ => rfl)) (fun _ _ _ _ _ _ _ _ _ _ _ _ z => z) fun A outer s H vs Q E hr h => ?_
  obtain ⟨p, dx, ct, ps, cs, rfl, hct, cls, ok, pos, most, hp, k⟩ := h
  have seq : SqT K H ct (ps.map V.ref) := st_of hct
  have hrc : Room 3 _ := hr
  obtain ⟨tm, hm⟩ := T.k_Change_MOST
  refine ⟨_, (show PSs (cxOf CX0 P w K mg base n_ChangeD_initD "Change.__init__" (defScope s_ChangeD_initD) a.f_ChangeD_initD cdv A outer s H E).nox (defBody s_ChangeD_initD) _ from (pss_cons (ps_if (pt_cmpR op_gt (pe_callB call_len_seq (by rfl) T.b_len PySem.boot_len (pa_cons (pv 1) pa_nil)) (ClX.pe_cval (pe_glob (v := .ref a.f_Change) rfl T.mg_Change rfl)) (nomark _)) (pss_one ps_never) pss_nil)
    (pss_cons (ps_if (pt_cmpR op_eq (pe_callB call_len_seq (by rfl) T.b_len PySem.boot_len (pa_cons (pv 1) pa_nil)) pe_int (nomark _)) (pss_one ps_never) pss_nil)
    (pss_cons (ps_for PassesOwn.never rfl (pi_enT (by rfl) T.b_enumerate (pv 1)) (pg_tup rfl (pgs_cons (pg_name (i := 2) scCh.nd rfl (Or.inl rfl)) (pgs_cons (pg_name (i := 3) scCh.nd rfl (Or.inl rfl)) pgs_nil))) (pss_one (ps_if (pt_not (pt_val (pe_callB call_isi (by rfl) T.b_isinstance PyProof.Rows.boot_isinstance (pa_cons (pv 3) (pa_cons (pe_glob (v := .ref a.f_Clause) rfl T.mg_Clause rfl) pa_nil))))) (pss_one ps_never) pss_nil)))
    (pss_cons (ps_fld (pv 0) (pv 1) rfl)
    (pss_one (ps_fld (pv 0) (pe_call G_tables_of hrc rfl T.mg_tables_of T.fn_tables_of.kp (bd_tables_of T) .nil pass0 (pa_cons (pv 1) pa_nil)) rfl))))))).nox, ?_⟩
  have len : (ps.map V.ref).length = cs.length := by rw [List.length_map, cls.1]
  refine q_when (b := false) (et_is (et_test (ev_op (ev_lenT (K := K) (ev_var rfl) seq) (ev_cval ev_c T.r_Change hm) rv_I0)) (by rw [len]; exact decide_eq_false (by omega))) (fun z => nomatch z) fun _ H1 e1 => ?_
  refine q_when (b := false) (et_is (et_test (ev_op (ev_lenT (K := K) (ev_var rfl) (ex_t e1 seq)) ev_c (rv_eq rfl))) (by rw [len]; exact decide_eq_false (fun z => by injection z with z; omega))) (fun z => nomatch z) fun _ H2 e2 => ?_
  have e02 : Ex H H2 := e1.trans e2
  refine q_forEnT (K := K) (ev_var rfl) (ex_t e02 seq) (fun i σ' H' => Ex H2 H' ∧ ∃ o2 o3, σ' = [some (.ref p), some (.ref ct), o2, o3]) (fun H3 e3 => ⟨e3, _, _, rfl⟩) (fun i σ' H' q => q.1) (fun i y σ' H' hy q H3 e3 => ?_) (fun σ' H' q => ?_)
  · obtain ⟨e, o2, o3, rfl⟩ := q
    rw [List.getElem?_map] at hy
    obtain ⟨c, hc, rfl⟩ := Option.map_eq_some_iff.mp hy
    have hi : i < cs.length := by rw [← cls.1]; exact (List.getElem?_eq_some_iff.mp hc).1
    have cl := (cls.2 i c cs[i] hc (by simp [hi])).mono ((e02.trans e).trans e3)
    exact s_when (b := false) (et_not (a := true) (et_B (ev_isi (ea_cons (ev_var rfl) (ea_cons ev_c ea_nil)) (.own _) (fun H' e' => tyx_clause T (cl.mono e')) T.is_Clause))) (fun z => nomatch z) fun _ H4 e4 => ⟨(e.trans e3).trans e4, _, _, rfl⟩
  · obtain ⟨e, o2, o3, rfl⟩ := q
    have e03 : Ex H H' := e02.trans e
    refine q_fld (y := .ref ct) (ev_var rfl) (ev_var rfl) (e03 _ _ hp) T.c_Change T.n_clauses_Change (by show 0 < 1000; decide) fun H4 b4 hp4 => ?_
    have ctp : ct ≠ p := fun z => by rw [z, hp] at hct; cases hct
    have cls4 : ClsAt K a H4 ps cs := (cls.mono e03).exb b4 (e03 _ _ hp) rfl
    refine ⟨.ref ct, rfl, ct, ps, cs, rfl, st_of (b4 _ _ (e03 _ _ hct) ctp), cls4, ok, fun tt H5 e5 tab => ⟨_, rfl, p, a.f_Change, dx, _, rfl, e5 _ _ hp4, T.c_Change, T.n_tables_Change, by exact Nat.lt_of_le_of_lt (length_putF _ _ _) (by decide), ?_⟩⟩
    have b5 : ExB p H5 (upd H5 p (.ins a.f_Change dx (putF "_tables" (.ref tt) (putF "_clauses" (.ref ct) [])))) := fun b o hb ne => by rw [upd_ne ne]; exact hb
    have hw : (putF "_clauses" (V.ref ct) []).lookup ("_who" : Str) = none := by
      rw [lookup_putF, if_neg (by decide +kernel)]
      rfl
    exact k _ (((ExB.of e03).trans b4).trans ((ExB.of e5).trans b5)) ⟨dx, ct, tt, ps, upd_same, exb_t b5 (e5 _ _ hp4) (st_of (e5 _ _ (b4 _ _ (e03 _ _ hct) ctp))), (cls4.mono e5).exb b5 (e5 _ _ hp4) hw, exb_tab b5 (e5 _ _ hp4) tab⟩
end
end KX
set_option Elab.async false
set_option linter.all false
set_option maxRecDepth 100000
set_option maxHeartbeats 4000000
namespace KX
open PySem PySem.Spec PyProof.Rows L2 Evl
local macro_rules | `(tactic| walk_at "ev") => `(tactic| repeat' (first | exact ev_c | exact ev_var rfl | exact rv_I0 | refine' rv_I ?_ | refine' rv_eq ?_ | refine' rv_ne ?_ | refine' ev_op ?_ ?_ ?_ | exact ea_nil | refine' ea_cons ?_ ?_ | refine' et_test ?_ | refine' et_B ?_ | refine' et_not ?_ | refine' ev_notV ?_))

open PySem
section
variable {K : PySem.W.Frag} {σ : L2.St} {H H' : Hp} {ta tb te tx tv : TE} {t : TT} {x y z v : V} {r : R2} {D : Ends} {tz tu : TS}
theorem q_forEnL {b : Addr} {ys : List V} {i1 i2 : Nat} {ta : TA} (h : EvA ta σ H [.ref b]) (Pv : Nat → L2.St → Hp → Prop) (h0 : ∀ H1, Ex H H1 → Pv 0 σ H1) (now : ∀ i σ' H', Pv i σ' H' → H' b = some (.lst ys)) (seq : H b = some (.lst ys))
    (hs : ∀ (i : Nat) (y : V) σ' H', ys[i]? = some y → Pv i σ' H' → ∀ H2, Ex H' H2 → tu { D with nx := Pv (i + 1), ct := Pv (i + 1), bk := tz D } ((σ'.set i1 (some (.int (i : Nat)))).set i2 (some y)) H2) (hd : ∀ σ' H', Pv ys.length σ' H' → tz D σ' H') :
    tSeq (tFor (iEnum K ta) (gTup K 2 (gCons (gName i1) (gCons (gName i2) gNil))) tu) tz D σ H :=
  h H (Ex.refl H) _ fun H1 e1 => ⟨b, ys, rfl, sq_of (e1 _ _ seq), fun i m σ' H' => m = ys.length - i ∧ i ≤ ys.length ∧ Pv i σ' H', ⟨ys.length, by simp, Nat.zero_le _, h0 H1 e1⟩, by
    rintro i m σ' H' ⟨rfl, hi, p⟩
    have here : SqL K H' b ys := sq_of (now i σ' H' p)
    by_cases hlt : i < ys.length
    · refine .inr ⟨⟨ys, ys[i], here, by simp [hlt]⟩, Pv (i + 1), fun σ2 H2 p' => ⟨ys.length - (i + 1), by omega, rfl, hlt, p'⟩, ?_⟩
      rintro x H2 ⟨T, y, rfl, hT, rfl, hy⟩
      exact ⟨T, _, rfl, st_of upd_same, rfl, _, _, rfl, _, _, rfl, rfl, hs i y σ' H' (hy ys here) p _ (Ex.new hT)⟩
    · have e : i = ys.length := by omega
      subst e
      exact .inl ⟨⟨ys, here, Nat.le_refl _⟩, hd σ' H' p⟩⟩
end
/-! a list that grows leaves the rest as it is -/
section
variable {K : PySem.W.Frag} {a : Ads} {H H' : Hp} {p q b t : Addr} {zs xs : List V} {f : Nat → Nat → Nat} {who sign what : Str} {ps : List Addr} {cs : List Cl}
theorem grow_t (e : ExB p H H') (hp : H p = some (.lst zs)) (h : SqT K H b xs) : SqT K H' b xs := by
  rcases h with (h | ⟨ob, h⟩) | h
  · exact .inl (.inl (e _ _ h fun z => by rw [z, hp] at h; cases h))
  · exact .inl (.inr ⟨ob, e _ _ h fun z => by rw [z, hp] at h; cases h⟩)
  · exact .inr h
theorem grow_tab (e : ExB p H H') (hp : H p = some (.lst zs)) (h : TabR K H t f) : TabR K H' t f := by
  obtain ⟨t0, t1, t2, t3, h, h0, h1, h2, h3⟩ := h
  exact ⟨t0, t1, t2, t3, grow_t e hp h, grow_t e hp h0, grow_t e hp h1, grow_t e hp h2, grow_t e hp h3⟩
theorem ClauseAt.grow (m : ClauseAt K a H q who sign what) (e : ExB p H H') (hp : H p = some (.lst zs)) : ClauseAt K a H' q who sign what := by
  obtain ⟨d2, t, ho, tab⟩ := m.ob
  exact ⟨⟨d2, t, e _ _ ho (fun z => by rw [z, hp] at ho; cases ho), grow_tab (f := fun k => tabF who sign what k) e hp tab⟩⟩
theorem ClsAt.grow (m : ClsAt K a H ps cs) (e : ExB p H H') (hp : H p = some (.lst zs)) : ClsAt K a H' ps cs := ⟨m.1, fun i q c h1 h2 => (m.2 i q c h1 h2).grow e hp⟩
theorem ClsAt.snoc {c : Cl} (m : ClsAt K a H ps cs) (h : ClauseAt K a H q c.1 c.2.1 c.2.2) : ClsAt K a H (ps ++ [q]) (cs ++ [c]) := by
  refine ⟨by rw [List.length_append, List.length_append, m.1] <;> rfl, fun i r d h1 h2 => ?_⟩
  by_cases hi : i < ps.length
  · rw [List.getElem?_append_left hi] at h1
    rw [List.getElem?_append_left (by rw [← m.1]; exact hi)] at h2
    exact m.2 i r d h1 h2
  · have hj : i = ps.length := by
      have := (List.getElem?_eq_some_iff.mp h1).1
      rw [List.length_append] at this
      have e1 : ([q] : List Addr).length = 1 := rfl
      omega
    subst hj
    rw [List.getElem?_append_right (Nat.le_refl _), Nat.sub_self] at h1
    rw [m.1, List.getElem?_append_right (Nat.le_refl _), Nat.sub_self] at h2
    obtain rfl : q = r := Option.some.inj h1
    obtain rfl : c = d := Option.some.inj h2
    exact h
end
/-- a clause's own text -/
def clText (c : Cl) : Str := clT (if c.1 = "ugo" then "a" else c.1) c.2.1 c.2.2
def spCRead (K : PySem.W.Frag) (a : Ads) : Sp := fun vs H Q _ => ∃ (s : Str) (cs : List Cl), vs = [.ref a.f_Change, .str s] ∧ Txt.split s "," = cs.map clText ∧ s.length ≤ 1000 ∧ (∀ c ∈ cs, clOk c) ∧ 0 < cs.length ∧ cs.length ≤ 5 ∧ ∀ p H', H p = none → Ex H H' → ChangeAt K a H' p cs → Q (.ref p) H'
section
variable {P : Program} {w : World} {K : PySem.W.Frag} {mg : Str → Option Value} {base : Heap} {a : Ads}
theorem ok_Change_read (T : Txt w K mg a) : FnOk P w K mg base CX0 8 a.f_Change_read a.d_Change_read ["cls", "text"] (spCRead K a) := by
  have G_Clause_read : FnOk P w K mg base CX0 7 _ _ _ _ := ok_Clause_read T
  have G_Change_init : FnR P w K mg base CX0 6 _ _ := (ok_Change_init T).mono (by decide)
  refine T.fn_Change_read.ok sc_Change_read (fun vs H Q E h => ?_) (fun cdv A outer s0 H vs Q E hr h => ?_)
  · obtain ⟨_, _, rfl, _⟩ := h
    rfl
  · obtain ⟨s, cs, rfl, hsp, hlen, ok, pos, most, k⟩ := h
    have hrc : Room 7 _ := hr
    have hrm : Room (6 + 1) _ := hr
    obtain ⟨tm, hm⟩ := T.k_Change_MOST
    refine ⟨_, (pss_cons (ps_if (pt_not (pt_val (pe_callB call_isi (by rfl) T.b_isinstance PyProof.Rows.boot_isinstance (pa_cons (pv 1) (pa_cons (pe_bltn (v := .ty "str") (by rfl) T.b_str (by decide +kernel) rfl) pa_nil))))) (pss_one ps_never) pss_nil)
    (pss_cons (ps_set (i := 2) sc_Change_read.nd rfl (Or.inl rfl) (pe_split (pv 1) pe_str))
    (pss_cons (ps_if (pt_cmpR op_gt (pe_callB call_len_seq (by rfl) T.b_len PySem.boot_len (pa_cons (pv 2) pa_nil)) (ClX.pe_cval (pe_glob (v := .ref a.f_Change) rfl T.mg_Change rfl)) (nomark _)) (pss_one ps_never) pss_nil)
    (pss_cons (ps_set (i := 3) sc_Change_read.nd rfl (Or.inl rfl) (pe_lst pa_nil))
    (pss_cons (ps_for PassesOwn.never rfl (pi_enum (by rfl) T.b_enumerate (pa_cons (pv 2) pa_nil)) (pg_tup rfl (pgs_cons (pg_name (i := 4) sc_Change_read.nd rfl (Or.inl rfl)) (pgs_cons (pg_name (i := 5) sc_Change_read.nd rfl (Or.inl rfl)) pgs_nil))) (pss_one (ps_try_only (tb := fun _ => tDrop (tBM K "list" rAppend (tVar 3) (tCons (ClX.tCMeth a.f_Clause (fun vs H Q E => spRead K a (vs ++ []) H Q E) E0 (tC (.ref a.f_Clause)) (tCons (tVar 5) tNil)) tNil))) (ts := fun _ _ _ => tNever) (Wout := fun _ _ _ _ => False) rfl rfl ⟨rfl, by decide, .inl T.mg_BadClause⟩ takes0 (fun W pn xe tk _ => (pss_one (ps_expr (pe_bm PySem.F.plainAttrs_list PySem.F.slot_list_append PySem.F.type_list_append mt_append (pv 3) (pa_cons (ClX.pe_cmeth (pe_glob (v := .ref a.f_Clause) rfl T.mg_Clause rfl) T.r_Clause T.m_Clause_read (G_Clause_read.raw (bd_Clause_read T) .nil) hrc pass0 (pa_cons (pv 5) pa_nil)) pa_nil))))) (fun a oe cls d pn _ _ => pss_one ps_never))))
    (pss_one (ps_ret (pe_makeVS (i := 0) T.mk_Change G_Change_init hrm pass0 rfl (Or.inl rfl) (pv 3))))))))), ?_⟩
    refine q_when (b := false) (et_not (a := true) (et_B (ev_isi (ea_cons (ev_var rfl) (ea_cons ev_c ea_nil)) (.ty _) (fun _ _ => .base (.str _)) (kit_ty (by decide +kernel))))) (fun z => nomatch z) fun _ H1 e1 => ?_
    refine ⟨_, rfl, ⟨s, rfl⟩, s, ",", rfl, rfl, by decide +kernel, by show s.length + 2 ≤ sizeLine; exact Nat.le_of_lt (Nat.lt_of_le_of_lt (Nat.add_le_add_right hlen 2) (by decide)), fun pr hpr => ?_⟩
    rw [hsp]
    have e2 : Ex H (upd H1 pr (.lst ((cs.map clText).map V.str))) := e1.trans (Ex.new hpr)
    refine q_when (b := false) (et_is (et_test (ev_op (ev_lenS (K := K) (ev_var rfl) (sq_of upd_same)) (ev_cval ev_c T.r_Change hm) rv_I0)) (by rw [List.length_map, List.length_map]; exact decide_eq_false (by omega))) (fun z => nomatch z) fun _ H3 e3 => ?_
    refine q_asgL (xs := []) (el_lst ea_nil (by decide)) fun l H4 hl e4 h4 => ?_
    have hpr4 : H4 pr = some (.lst ((cs.map clText).map V.str)) := e4 _ _ (e3 _ _ upd_same)
    have hlH : H l = none := fresh_back (e2.trans e3) hl
    have lpr : pr ≠ l := fun z => by rw [← z, e3 _ _ upd_same] at hl; cases hl
    refine q_forEnL (K := K) (ys := (cs.map clText).map V.str) (ea_cons (ev_var rfl) ea_nil) (fun i σ' H' => Ex H H' ∧ H' pr = some (.lst ((cs.map clText).map V.str)) ∧ (∃ o4 o5, σ' = [some (.ref a.f_Change), some (.str s), some (.ref pr), some (.ref l), o4, o5]) ∧ ∃ ps : List Addr, H' l = some (.lst (ps.map V.ref)) ∧ ClsAt K a H' ps (cs.take i))
      (fun H5 e5 => ⟨((e2.trans e3).trans e4).trans e5, e5 _ _ hpr4, ⟨_, _, rfl⟩, [], e5 _ _ h4, rfl, fun i q c h1 h2 => by simp at h1⟩) (fun i σ' H' q => q.2.1) hpr4 (fun i y σ' H' hy q H5 e5 => ?_) (fun σ' H' q => ?_)
    · obtain ⟨e, hpr5, ⟨o4, o5, rfl⟩, ps, hl5, cls⟩ := q
      rw [List.getElem?_map, List.getElem?_map] at hy
      obtain ⟨c, hc, rfl⟩ : ∃ c, cs[i]? = some c ∧ V.str (clText c) = y := by
        cases hc : cs[i]? with
        | none => rw [hc] at hy; cases hy
        | some c => rw [hc] at hy; exact ⟨c, rfl, Option.some.inj hy⟩
      have cok := ok c (List.mem_of_getElem? hc)
      refine ⟨_, rfl, .inl ⟨rfl, _, sq_of (e5 _ _ hl5)⟩, rfl, _, rfl, (if c.1 = "ugo" then "a" else c.1), c.1, c.2.1, c.2.2, rfl, ?_, cok.1, cok.2.1, cok.2.2, fun q H6 hq e6 cl => ?_⟩
      · by_cases hu : c.1 = "ugo"
        · rw [if_pos hu]; exact .inr ⟨rfl, hu⟩
        · rw [if_neg hu]; exact .inl rfl
      have hl6 := e6 _ _ (e5 _ _ hl5)
      have hps : ps.length ≤ 5 := by rw [cls.1, List.length_take]; omega
      refine ⟨l, _, _, rfl, rfl, hl6, by rw [List.length_map]; exact Nat.lt_of_le_of_lt hps (by decide), ?_⟩
      have b7 : ExB l H6 (upd H6 l (.lst (ps.map V.ref ++ [.ref q]))) := fun b o hb ne => by rw [upd_ne ne]; exact hb
      refine ⟨Ex.mut ((e.trans e5).trans e6) hlH, by rw [upd_ne lpr]; exact e6 _ _ (e5 _ _ hpr5), ⟨_, _, rfl⟩, ps ++ [q], by rw [upd_same, List.map_append] <;> rfl, ?_⟩
      rw [show cs.take (i + 1) = cs.take i ++ [c] by rw [List.take_succ, hc]; rfl]
      exact (((cls.mono e5).mono e6).snoc cl).grow b7 hl6
    · obtain ⟨e, hpr5, ⟨o4, o5, rfl⟩, ps, hl5, cls⟩ := q
      rw [List.length_map, List.length_map, List.take_length] at cls
      refine ⟨rfl, _, rfl, l, ps.map V.ref, rfl, .inr (sq_of hl5), fun x dx hx hdx hne => ⟨.ref x, ps.map V.ref, rfl, by rw [List.length_map, cls.1]; exact most, fun ct hct => ?_⟩⟩
      have eN : Ex H' (upd (upd (upd H' dx (.own x)) x (.ins a.f_Change dx [])) ct (.tup (ps.map V.ref))) := fun b o hb => by
        have bx := ne_of_none hb hx
        have bd := ne_of_none hb hdx
        have bc : b ≠ ct := fun z => by
          rw [z] at bx bd hb
          rw [upd_ne bx, upd_ne bd, hb] at hct
          cases hct
        rw [upd_ne bc, upd_ne bx, upd_ne bd]
        exact hb
      have xct : x ≠ ct := fun z => by rw [← z, upd_same] at hct; cases hct
      exact ⟨x, dx, ct, ps, cs, rfl, upd_same, cls.mono eN, ok, pos, Nat.le_trans most (by decide), by rw [upd_ne xct, upd_same], fun H9 b9 ch => ⟨rfl, k x H9 (fresh_back e hx) (e.trans fun b o hb => b9 b o (eN b o hb) (ne_of_none hb hx)) ch⟩⟩
end
end KX
set_option Elab.async false
set_option linter.all false
set_option maxRecDepth 100000
set_option maxHeartbeats 4000000
namespace KX
open PySem PySem.Spec PyProof.Rows L2 Evl
local macro_rules | `(tactic| walk_at "ev") => `(tactic| repeat' (first | exact ev_c | exact ev_var rfl | exact rv_I0 | refine' rv_I ?_ | refine' rv_eq ?_ | refine' rv_ne ?_ | refine' ev_op ?_ ?_ ?_ | exact ea_nil | refine' ea_cons ?_ ?_ | refine' et_test ?_ | refine' et_B ?_ | refine' et_not ?_ | refine' ev_notV ?_))

open PySem
def foldN (cs : List Cl) (n : Nat) (form : Str) : Nat := cs.foldl (fun (v : Nat) (c : Cl) => doneN c.1 c.2.1 c.2.2 v form) n
theorem done_lt {who sign what form : Str} {n : Nat} (h : n < 512) : doneN who sign what n form < 512 := by
  have h1 := part_lt (who := who) (sign := sign) (what := what) (form := form) (c := 117) h
  have h2 := part_lt (who := who) (sign := sign) (what := what) (form := form) (c := 103) h
  have h3 := part_lt (who := who) (sign := sign) (what := what) (form := form) (c := 111) h
  unfold doneN
  omega
theorem fold_lt : ∀ (cs : List Cl) {n : Nat} {form : Str}, n < 512 → foldN cs n form < 512
  | [], _, _, h => h
  | c :: cs, _, _, h => fold_lt cs (done_lt h)
theorem foldN_snoc (cs : List Cl) (c : Cl) (n : Nat) (form : Str) : foldN (cs ++ [c]) n form = doneN c.1 c.2.1 c.2.2 (foldN cs n form) form := by
  unfold foldN
  rw [List.foldl_append]
  rfl
/-- the told clauses cs stand in a list -/
def ToldAt (H : Hp) (l : Addr) (cs : List Cl) : Prop := ∃ ts : List Addr, H l = some (.lst (ts.map V.ref)) ∧ ts.length = cs.length ∧ ∀ (i : Nat) (t : Addr) (c : Cl), ts[i]? = some t → cs[i]? = some c → H t = some (.tup [.str c.1, .str c.2.1, .str c.2.2])
theorem ToldAt.mono {H H' : Hp} {l : Addr} {cs : List Cl} (m : ToldAt H l cs) (e : Ex H H') : ToldAt H' l cs := by
  obtain ⟨ts, h1, h2, h3⟩ := m
  exact ⟨ts, e _ _ h1, h2, fun i t c a b => e _ _ (h3 i t c a b)⟩
theorem rv_addS {H : Hp} {a b : Str} (h : a.length + b.length ≤ 100000) : RV (fun x y H Q => ∃ a b, x = .str a ∧ y = .str b ∧ a.length + b.length ≤ sizeLine ∧ Q (.str (a ++ b)) H) (.str a) (.str b) H (.str (a ++ b)) := fun H1 _ _ q => ⟨a, b, rfl, rfl, sz_of h, q H1 (Ex.refl H1)⟩
theorem short : (∀ s ∈ allWho0, s.length ≤ 3) ∧ (∀ s ∈ allSign, s.length ≤ 1) ∧ (∀ s ∈ allw, s.length ≤ 4) := by decide +kernel
abbrev who0N (c : Cl) : Str := if c.1 = "ugo" then "a" else c.1
theorem who0_in {c : Cl} (h : c.1 ∈ allWho) : (who0N c) ∈ allWho0 := by
  unfold who0N
  split
  · exact List.mem_cons_self ..
  · exact List.mem_cons_of_mem _ h
def spText (K : PySem.W.Frag) : Sp := fun vs H Q _ => ∃ (t : Addr) (c : Cl), vs = [.ref t] ∧ SqT K H t [.str c.1, .str c.2.1, .str c.2.2] ∧ clOk c ∧ ∀ H', Ex H H' → Q (.str (clText c)) H'
def spChT (K : PySem.W.Frag) : Sp := fun vs H Q _ => ∃ (l : Addr) (cs : List Cl), vs = [.ref l] ∧ ToldAt H l cs ∧ (∀ c ∈ cs, clOk c) ∧ cs.length ≤ 8 ∧ ∀ H', Ex H H' → Q (.str (Txt.join "," (cs.map clText))) H'
def spChD (K : PySem.W.Frag) : Sp := fun vs H Q _ => ∃ (l : Addr) (cs : List Cl) (n : Nat) (form : Str), vs = [.ref l, .int n, .str form] ∧ ToldAt H l cs ∧ (∀ c ∈ cs, clOk c) ∧ n < 512 ∧ ∀ H', Ex H H' → Q (.int (foldN cs n form : Nat)) H'
theorem clText_len {c : Cl} (h : clOk c) : (clText c).length ≤ 100 := (clT_facts _ (who0_in h.1) _ h.2.1 _ h.2.2).2.2.2.2.2.2
section
variable {P : Program} {w : World} {K : PySem.W.Frag} {mg : Str → Option Value} {base : Heap} {a : Ads}
theorem ok_text (T : Txt w K mg a) : FnOk P w K mg base CX0 1 a.f__law_text a.d__law_text ["_law_told"] (spText K) := by
  refine T.fn__law_text.ok sc__law_text (fun vs H Q E h => ?_) (fun cdv A outer s H vs Q E hr h => ?_)
  · obtain ⟨_, _, rfl, _⟩ := h
    rfl
  · obtain ⟨t, c, rfl, ht, ok, k⟩ := h
    refine ⟨_, (pss_one (ps_ret (pe_op op_add_str (pe_op op_add_str (pe_ifExp (pt_cmpR op_eq (pe_ix ix_tup (pv 0) pe_int (fun _ _ => rfl)) pe_str (nomark _)) pe_str (pe_ix ix_tup (pv 0) pe_int (fun _ _ => rfl))) (pe_ix ix_tup (pv 0) pe_int (fun _ _ => rfl))) (pe_ix ix_tup (pv 0) pe_int (fun _ _ => rfl))))), ?_⟩
    have l1 := short.1 _ (who0_in ok.1)
    have l2 := short.2.1 _ ok.2.1
    have l3 := short.2.2 _ ok.2.2
    have l12 : (who0N c ++ c.2.1).length = (who0N c).length + c.2.1.length := by
      show ((who0N c).cps ++ c.2.1.cps).size = _
      rw [Array.size_append]
      rfl
    refine s_ret (v := .str (clText c)) (ev_is (ev_op (ev_op (ev_if (b := decide (V.str c.1 = V.str "ugo")) (v := .str (who0N c)) (et_test (ev_op (ev_op (ev_var rfl) ev_c (rv_ixT ht rfl)) ev_c (rv_eq rfl))) (fun hb => ev_is ev_c (by unfold who0N; rw [if_pos (V.str.inj (of_decide_eq_true hb))])) (fun hb => ev_is (ev_op (ev_var rfl) ev_c (rv_ixT ht rfl)) (by unfold who0N; rw [if_neg (fun z => of_decide_eq_false hb (congrArg V.str z))])))
      (ev_op (ev_var rfl) ev_c (rv_ixT ht rfl)) (rv_addS (by omega))) (ev_op (ev_var rfl) ev_c (rv_ixT ht rfl)) (rv_addS (by rw [l12]; omega))) rfl) fun H1 e1 => k H1 e1
theorem ok_change_done (T : Txt w K mg a) : FnOk P w K mg base CX0 3 a.f__law_change_done a.d__law_change_done ["_law_change_here", "_law_number", "_law_form_so"] (spChD K) := by
  have G__law_clause_done : FnOk P w K mg base CX0 1 _ _ _ _ := ok_done T
  refine T.fn__law_change_done.ok sc__law_change_done (fun vs H Q E h => ?_) (fun cdv A outer s H vs Q E hr h => ?_)
  · obtain ⟨_, _, _, _, rfl, _⟩ := h
    rfl
  · obtain ⟨l, cs, n, form, rfl, told, ok, hn, k⟩ := h
    have hrc : Room 1 _ := hr.mono (by decide)
    refine ⟨_, (pss_cons (ps_for PassesOwn.never rfl (pi_list (pv 0)) (pg_name (i := 3) sc__law_change_done.nd rfl (Or.inl rfl)) (pss_one (ps_set (i := 1) sc__law_change_done.nd rfl (Or.inl rfl) (pe_call G__law_clause_done hrc rfl T.mg__law_clause_done T.fn__law_clause_done.kp (bd__law_clause_done T) .nil pass0 (pa_cons (pv 3) (pa_cons (pv 1) (pa_cons (pv 2) pa_nil)))))))
    (pss_one (ps_ret (pv 1)))), ?_⟩
    obtain ⟨ts, h1, h2, h3⟩ := told
    refine q_forL (K := K) (ev_var rfl) (sq_of h1) (fun i σ' H' => ∃ o3, σ' = [some (.ref l), some (.int (foldN (cs.take i) n form : Nat)), some (.str form), o3] ∧ Ex H H') (fun H1 e1 => ⟨_, rfl, e1⟩) (fun i σ' H' _ q => by obtain ⟨_, _, e⟩ := q; exact sq_of (e _ _ h1)) (fun i x σ' H' hx q => ?_) (fun σ' H' q => ?_)
    · obtain ⟨o3, rfl, e⟩ := q
      rw [List.getElem?_map] at hx
      obtain ⟨t, ht, rfl⟩ := Option.map_eq_some_iff.mp hx
      have hi : i < cs.length := by rw [← h2]; exact (List.getElem?_eq_some_iff.mp ht).1
      have hci : cs[i]? = some cs[i] := by simp [hi]
      have cok := ok _ (List.mem_of_getElem? hci)
      show tAsg _ (gName 1) _ [some (.ref l), some (.int (foldN (cs.take i) n form : Nat)), some (.str form), some (.ref t)] H'
      refine s_asg (v := .int (doneN cs[i].1 cs[i].2.1 cs[i].2.2 (foldN (cs.take i) n form) form : Nat)) (ev_call (vs := [.ref t, .int (foldN (cs.take i) n form : Nat), .str form]) (by walk_at "ev") fun H2 e2 Q2 q2 E2 => ⟨t, _, _, _, form, _, rfl, st_of (e2 _ _ (e _ _ (h3 i t _ ht hci))), cok.1, cok.2.1, cok.2.2, fold_lt _ hn, q2⟩) fun H2 e2 => ?_
      refine ⟨some (.ref t), ?_, e.trans e2⟩
      rw [show cs.take (i + 1) = cs.take i ++ [cs[i]] by rw [List.take_succ, hci]; rfl, foldN_snoc]
      rfl
    · obtain ⟨o3, rfl, e⟩ := q
      rw [List.length_map, h2, List.take_length]
      exact s_ret (v := .int (foldN cs n form : Nat)) (ev_var rfl) fun H2 e2 => k H2 (e.trans e2)
theorem ok_change_text (T : Txt w K mg a) : FnOk P w K mg base CX0 3 a.f__law_change_text a.d__law_change_text ["_law_change_here"] (spChT K) := by
  have G__law_text : FnOk P w K mg base CX0 1 _ _ _ _ := ok_text T
  refine T.fn__law_change_text.ok sc__law_change_text (fun vs H Q E h => ?_) (fun cdv A outer s H vs Q E hr h => ?_)
  · obtain ⟨_, _, rfl, _⟩ := h
    rfl
  · obtain ⟨l, cs, rfl, told, ok, hl, k⟩ := h
    have hrc : Room 1 _ := hr.mono (by decide)
    refine ⟨_, (pss_one (ps_ret (pe_join pe_str (pe_lc (own := [("_law_told", 1)]) (g := gName 1) rfl sc__law_change_text.nd (pi_list (pv 0)) (blkOk_by (own := [("_law_told", 1)]) (N := n__law_change_text) (sc := defScope s__law_change_text) (by decide +kernel)) (fun _ _ _ _ _ => (pg_name (i := 1) sc__law_change_text.nd rfl (Or.inl rfl))) (fun _ _ _ _ _ => pts_nil) (fun _ _ _ _ _ => (pe_call G__law_text hrc rfl T.mg__law_text T.fn__law_text.kp (bd__law_text T) .nil pass0 (pa_cons (pv 1) pa_nil))))))), ?_⟩
    obtain ⟨ts, h1, h2, h3⟩ := told
    have sum : ∀ ds : List Cl, (∀ c ∈ ds, clOk c) → ((ds.map clText).map (·.length)).sum ≤ ds.length * 100 := by
      intro ds
      induction ds with
      | nil => intro _; exact Nat.le_refl 0
      | cons c ds ih =>
        intro h
        have := ih fun d m => h d (List.mem_cons_of_mem _ m)
        have := clText_len (h c (List.mem_cons_self ..))
        simp only [List.map_cons, List.sum_cons, List.length_cons]
        omega
    refine s_ret (v := .str (Txt.join "," (cs.map clText))) (ev_join (ys := cs.map clText) ev_c (el_is (el_lcL (K := K) (xs := ts.map V.ref) (fun _ => true) (fun i => V.str (((cs.map clText)[i]?).getD "")) (ev_var rfl) (sq_of h1) (by rw [List.length_map]; omega) (fun _ => rfl) (fun _ _ _ _ _ => et_yes) (fun i x H1 e1 hx _ => ?_)) ?_) ?_) fun H1 e1 => k H1 e1
    · rw [List.getElem?_map] at hx
      obtain ⟨t, ht, rfl⟩ := Option.map_eq_some_iff.mp hx
      have hi : i < cs.length := by rw [← h2]; exact (List.getElem?_eq_some_iff.mp ht).1
      have hci : cs[i]? = some cs[i] := by simp [hi]
      refine ev_is (ev_call (vs := [.ref t]) (by walk_at "ev") fun H2 e2 Q2 q2 E2 => ⟨t, cs[i], rfl, st_of (e2 _ _ (e1 _ _ (h3 i t _ ht hci))), ok _ (List.mem_of_getElem? hci), q2⟩) ?_
      rw [List.getElem?_map, hci]
      rfl
    · rw [given_all, List.length_map, h2]
      apply List.ext_getElem
      · simp
      · intro i a1 a2
        simp at a1 a2 ⊢
        simp [a1]
    · have := sum cs ok
      rw [List.length_map, show ("," : Str).length = 1 by decide +kernel]
      omega
end
end KX
set_option Elab.async false
set_option linter.all false
set_option maxRecDepth 100000
set_option maxHeartbeats 4000000
namespace KX
open PySem PySem.Spec PyProof.Rows L2 Evl
local macro_rules | `(tactic| walk_at "ev") => `(tactic| repeat' (first | exact ev_c | exact ev_var rfl | exact rv_I0 | refine' rv_I ?_ | refine' rv_eq ?_ | refine' rv_ne ?_ | refine' ev_op ?_ ?_ ?_ | exact ea_nil | refine' ea_cons ?_ ?_ | refine' et_test ?_ | refine' et_B ?_ | refine' et_not ?_ | refine' ev_notV ?_))

open PySem
theorem bits_lt : ∀ p, p < 8 → ∀ w : Nat, (w = 1 ∨ w = 2 ∨ w = 4) → bitsN p w < 512 := by
  intro p hp w hw
  unfold bitsN
  have h1 := Nat.mod_lt (p / 4) (show 0 < 2 by decide)
  have h2 := Nat.mod_lt (p / 2) (show 0 < 2 by decide)
  have h3 := Nat.mod_lt p (show 0 < 2 by decide)
  rcases hw with rfl | rfl | rfl <;> omega
theorem pat_sum : ∀ p0, p0 < 8 → ∀ p1, p1 < 8 → ∀ p2, p2 < 8 → patN (bitsN p0 4 + bitsN p1 2 + bitsN p2 1) 4 = p0 ∧ patN (bitsN p0 4 + bitsN p1 2 + bitsN p2 1) 2 = p1 ∧ patN (bitsN p0 4 + bitsN p1 2 + bitsN p2 1) 1 = p2 := by
  have h : ((List.range 8).all fun (p0 : Nat) => (List.range 8).all fun (p1 : Nat) => (List.range 8).all fun (p2 : Nat) => decide (patN (bitsN p0 4 + bitsN p1 2 + bitsN p2 1) 4 = p0 ∧ patN (bitsN p0 4 + bitsN p1 2 + bitsN p2 1) 2 = p1 ∧ patN (bitsN p0 4 + bitsN p1 2 + bitsN p2 1) 1 = p2)) = true := by decide +kernel
  exact fun p0 h0 p1 h1 p2 h2 => of_decide_eq_true (all_nat (all_nat (all_nat h p0 h0) p1 h1) p2 h2)
theorem parts_are : ∀ n, n < 512 → bitsN (patN n 4) 4 + bitsN (patN n 2) 2 + bitsN (patN n 1) 1 = n := by
  have h : ((List.range 512).all fun (n : Nat) => decide (bitsN (patN n 4) 4 + bitsN (patN n 2) 2 + bitsN (patN n 1) 1 = n)) = true := by decide +kernel
  exact fun n hn => of_decide_eq_true (all_nat h n hn)
theorem pat_bitsN : ∀ p, p < 8 → patN (bitsN p 4) 4 = p ∧ patN (bitsN p 2) 2 = p ∧ patN (bitsN p 1) 1 = p := by
  have h : ((List.range 8).all fun (p : Nat) => decide (patN (bitsN p 4) 4 = p ∧ patN (bitsN p 2) 2 = p ∧ patN (bitsN p 1) 1 = p)) = true := by decide +kernel
  exact fun p hp => of_decide_eq_true (all_nat h p hp)
/-- the table of x for a form -/
def xK (form : Str) : Nat := if decide (V.str form = V.str "file") then 2 else 3
theorem xK_tab (f : Nat → Nat → Nat) (form : Str) : (if decide (V.str form = V.str "file") then f 2 else f 3) = f (xK form) := by
  unfold xK
  cases decide (V.str form = V.str "file") <;> rfl
theorem pat_done {c : Cl} {n : Nat} {form : Str} (ok : clOk c) (hf : form ∈ forms) (hn : n < 512) : patN (doneN c.1 c.2.1 c.2.2 n form) 4 = tabF c.1 c.2.1 c.2.2 0 (patN n 4) ∧ patN (doneN c.1 c.2.1 c.2.2 n form) 2 = tabF c.1 c.2.1 c.2.2 1 (patN n 2) ∧ patN (doneN c.1 c.2.1 c.2.2 n form) 1 = tabF c.1 c.2.1 c.2.2 (xK form) (patN n 1) := by
  have l0 := tab_low (sign := c.2.1) (what := c.2.2) ok.1 0 _ (pat_lt 4 (by decide) n hn)
  have l1 := tab_low (sign := c.2.1) (what := c.2.2) ok.1 1 _ (pat_lt 2 (by decide) n hn)
  have l2 := tab_low (sign := c.2.1) (what := c.2.2) ok.1 (xK form) _ (pat_lt 1 (by decide) n hn)
  have hs := or_sum _ l0 _ l1 _ l2
  have hr : doneN c.1 c.2.1 c.2.2 n form = bitsN (tabF c.1 c.2.1 c.2.2 0 (patN n 4)) 4 + bitsN (tabF c.1 c.2.1 c.2.2 1 (patN n 2)) 2 + bitsN (tabF c.1 c.2.1 c.2.2 (xK form) (patN n 1)) 1 := by
    rw [← done_is_res ok.1 ok.2.1 ok.2.2 hf hn]
    unfold resN numI
    rw [xK_tab (fun k => tabF c.1 c.2.1 c.2.2 k), hs]
    rfl
  rw [hr]
  exact pat_sum _ l0 _ l1 _ l2
theorem pat_fold : ∀ (cs : List Cl) {n : Nat} {form : Str}, (∀ c ∈ cs, clOk c) → form ∈ forms → n < 512 → patN (foldN cs n form) 4 = foldT cs 0 (patN n 4) ∧ patN (foldN cs n form) 2 = foldT cs 1 (patN n 2) ∧ patN (foldN cs n form) 1 = foldT cs (xK form) (patN n 1)
  | [], _, _, _, _, _ => ⟨rfl, rfl, rfl⟩
  | c :: cs, n, form, ok, hf, hn => by
    obtain ⟨d4, d2, d1⟩ := pat_done (ok c (List.mem_cons_self ..)) hf hn
    obtain ⟨f4, f2, f1⟩ := pat_fold cs (n := doneN c.1 c.2.1 c.2.2 n form) (form := form) (fun d m => ok d (List.mem_cons_of_mem _ m)) hf (done_lt hn)
    show patN (foldN cs (doneN c.1 c.2.1 c.2.2 n form) form) 4 = foldT cs 0 (tabF c.1 c.2.1 c.2.2 0 (patN n 4)) ∧ patN (foldN cs (doneN c.1 c.2.1 c.2.2 n form) form) 2 = foldT cs 1 (tabF c.1 c.2.1 c.2.2 1 (patN n 2)) ∧ patN (foldN cs (doneN c.1 c.2.1 c.2.2 n form) form) 1 = foldT cs (xK form) (tabF c.1 c.2.1 c.2.2 (xK form) (patN n 1))
    rw [f4, f2, f1, d4, d2, d1]
    exact ⟨rfl, rfl, rfl⟩
theorem num_fold {cs : List Cl} {n : Nat} {form : Str} (ok : ∀ c ∈ cs, clOk c) (hf : form ∈ forms) (hn : n < 512) : numI (foldT cs 0) (foldT cs 1) (foldT cs 2) (foldT cs 3) n form = (foldN cs n form : Nat) := by
  obtain ⟨f4, f2, f1⟩ := pat_fold cs (n := n) (form := form) ok hf hn
  unfold numI
  rw [xK_tab (foldT cs), or_sum _ (foldT_low cs ok 0 _ (pat_lt 4 (by decide) n hn)) _ (foldT_low cs ok 1 _ (pat_lt 2 (by decide) n hn)) _ (foldT_low cs ok (xK form) _ (pat_lt 1 (by decide) n hn)), ← f4, ← f2, ← f1, parts_are _ (fold_lt cs hn)]
def spChCall (K : PySem.W.Frag) (a : Ads) : Sp := fun vs H Q _ => ∃ (p : Addr) (v : V) (n : Nat) (cs : List Cl) (form : Str), vs = [.ref p, v, .str form] ∧ ChangeAt K a H p cs ∧ (∀ c ∈ cs, clOk c) ∧ form ∈ forms ∧ n < 512 ∧ AsMode a H v n ∧ ∀ q H', H q = none → Ex H H' → ModeAt a H' q (foldN cs n form) → Q (.ref q) H'
section
variable {P : Program} {w : World} {K : PySem.W.Frag} {mg : Str → Option Value} {base : Heap} {a : Ads}
theorem chf_tables (ct tt : Addr) : (putF "_tables" (V.ref tt) (putF "_clauses" (V.ref ct) [])).lookup ("_tables" : Str) = some (.ref tt) := by
  rw [lookup_putF, if_pos rfl]
theorem ok_Change_call (T : Txt w K mg a) : FnOk P w K mg base CX0 7 a.f_ChangeD_callD a.d_ChangeD_callD ["self", "mode", "form"] (spChCall K a) := by
  have G_Mode_init : FnOk P w K mg base CX0 5 _ _ _ _ := ok_Mode_init T
  have G_number_behind : FnOk P w K mg base CX0 5 _ _ _ _ := (ok_number_behind T).mono (by decide)
  have G_number_of : FnOk P w K mg base CX0 5 _ _ _ _ := ok_number_of T
  refine T.fn_ChangeD_callD.ok sc_ChangeD_callD (fun vs H Q E h => ?_) (fun cdv A outer s H vs Q E hr h => ?_)
  · obtain ⟨_, _, _, _, _, rfl, _⟩ := h
    rfl
  · obtain ⟨p, v, n, cs, form, rfl, ⟨dx, ct, tt, ps, hp, seq, cls, tab⟩, ok, hf, hn, hv, k⟩ := h
    have hrm : Room 6 _ := hr
    have hrc : Room 5 _ := hr.mono (by decide)
    refine ⟨_, (pss_one (ps_ret (pe_make T.mk_Mode G_Mode_init hrm rfl T.mg_Mode (bd_ModeD_initD T) .nil pass0 (pa_cons (pe_call G_number_behind hrc rfl T.mg_number_behind T.fn_number_behind.kp (bd_number_behind T) .nil pass0 (pa_cons (pe_fld (pv 0) rfl) (pa_cons (pe_call G_number_of hrc rfl T.mg_number_of T.fn_number_of.kp (bd_number_of T) .nil pass0 (pa_cons (pv 1) pa_nil)) (pa_cons (pv 2) pa_nil)))) pa_nil)))), ?_⟩
    refine em_mode (a := a) (n := foldN cs n form) (ev_is (ev_call (vs := [.ref tt, .int n, .str form]) (ea_cons (ev_fld (ev_var rfl) hp T.c_Change T.n_tables_Change (chf_tables ct tt)) (ea_cons (ev_call (vs := [v]) (by walk_at "ev") fun H1 e1 Q1 q1 E1 => ⟨v, n, rfl, hn, ?_, q1⟩) (by walk_at "ev")))
      fun H1 e1 Q1 q1 E1 => ⟨tt, _, _, _, _, n, form, rfl, hn, TabR.mono tab e1, foldT_low cs ok 0, foldT_low cs ok 1, foldT_low cs ok 2, foldT_low cs ok 3, q1⟩) (congrArg V.int (num_fold ok hf hn))) (fold_lt cs hn) H (Ex.refl H) _ fun q H1 hq e1 m => k q H1 hq e1 m
    rcases hv with rfl | ⟨q, rfl, m⟩
    · exact .inl rfl
    · exact .inr ⟨q, rfl, m.mono e1⟩
theorem ok_Change_tables (T : Txt w K mg a) : FnOk P w K mg base CX0 1 a.f_Change_tables a.d_Change_tables ["self"] (getSp a.f_Change "_tables") := by
  obtain ⟨oc, od, kV, doc, pm, an, cdv, ct, osl, e, lk, hcd⟩ := T.fn_Change_tables.ex
  rw [e]
  exact fn_getter (by rw [← e]; exact lk) hcd sc_Change_tables rfl rfl T.c_Change T.n_tables_Change
end
end KX
set_option Elab.async false
set_option linter.all false
set_option maxRecDepth 100000
set_option maxHeartbeats 4000000
namespace KX
open PySem PySem.Spec PyProof.Rows L2 Evl
local macro_rules | `(tactic| walk_at "ev") => `(tactic| repeat' (first | exact ev_c | exact ev_var rfl | exact rv_I0 | refine' rv_I ?_ | refine' rv_eq ?_ | refine' rv_ne ?_ | refine' ev_op ?_ ?_ ?_ | exact ea_nil | refine' ea_cons ?_ ?_ | refine' et_test ?_ | refine' et_B ?_ | refine' et_not ?_ | refine' ev_notV ?_))

open PySem
theorem PenAt.le {H : Hp} {p : Addr} {n m : Nat} (h : PenAt H p n) (l : n ≤ m) : PenAt H p m := by
  obtain ⟨q, ns, at_, rest, h1, h2, h3, h4, h5, h6⟩ := h
  exact ⟨q, ns, at_, rest, h1, h2, h3, Nat.le_trans h4 l, h5, h6⟩
/-! x op y, both own instances of one class -/
def rOwnI (K : PySem.W.Frag) (C : Addr) (sp : Sp) (E : XK) : R2 := fun x y H Q => ∃ (p dx : Addr) (fs : List (Str × V)) (q dy : Addr) (gs : List (Str × V)), x = .ref p ∧ y = .ref q ∧ H p = some (.ins C dx fs) ∧ H q = some (.ins C dy gs) ∧ sp [x, y] H Q E
theorem op_ownI {X : Cx} {CX : CXT} {C g : Addr} {n : Nat} {sp : Sp} {E : XK} {op : CmpOp} (hop : ∀ a b, compareOp op a b = richCompare op a b) (hs : PySem.W.findIn X.K (.ref C) (cmpInfo op).2.1 = some (some (.ref g))) (hf : PySem.W.isFn X.K (.ref g) = true) (first : PySem.W.notFirst X.K C (.ref C) = true)
    (F : FnR X.prog X.w X.K X.mg X.base CX n g sp) (room : Room n X.A) (hx : Passes CX X E) : OpR X (compareOp op) (rOwnI X.K C sp E) := by
  intro pins s σ H x y v u Q I rx ry told
  obtain ⟨p, dx, fs, q, dy, gs, rfl, rfl, hp, hq, want⟩ := told
  obtain rfl : v = Value.ref p := rx
  obtain rfl : u = Value.ref q := ry
  obtain ⟨o1, d1, J1, _⟩ := StX.insC_at (X := X) I (.inr ⟨dx, fs, hp⟩)
  obtain ⟨o2, d2, J2, _⟩ := StX.insC_at (X := X) I (.inr ⟨dy, gs, hq⟩)
  obtain ⟨m, hF⟩ := I.fr
  rw [hop]
  refine PySem.W.cmp_K (op := op) (tb := .ref C) room.units0 hF I.ok.mod.kin J1 J2.type first hs hf (wpAny_mono (wpAny_call (run_fnR (us := [.ref p, .ref q]) (vs := [.ref p, .ref q]) F room hx I (.cons rfl (.cons rfl .nil)) want)) (fun r s' got => ?_) fun _ _ same => same)
  obtain ⟨z, H', I', rz, end_⟩ := got
  exact SlX.cmpback rz ⟨z, H', I', rz, end_⟩
def spMEq (a : Ads) : Sp := fun vs H Q _ => ∃ (p q : Addr) (n m : Nat), vs = [.ref p, .ref q] ∧ ModeAt a H p n ∧ ModeAt a H q m ∧ ∀ H', Ex H H' → Q (.bl (decide (V.int n = V.int m))) H'
def spChange : Sp := fun vs H Q _ => ∃ (p : Addr) (n : Nat), vs = [.ref p, .int 4] ∧ PenAt H p n ∧ n + 13 ≤ 100000 ∧ ∀ (l : Addr) (cs : List Cl) H', 0 < cs.length → cs.length ≤ 4 → (∀ c ∈ cs, clOk c) → l ≠ p → ExP p H H' → PenAt H' p (n + 13) → ToldAt H' l cs → Q (.ref l) H'
section
variable {P : Program} {w : World} {K : PySem.W.Frag} {mg : Str → Option Value} {base : Heap} {a : Ads}
theorem ok_Mode_eq (T : Txt w K mg a) : FnOk P w K mg base CX0 1 a.f_ModeD_eqD a.d_ModeD_eqD ["self", "other"] (spMEq a) := by
  refine T.fn_ModeD_eqD.ok sc_ModeD_eqD (fun vs H Q E h => ?_) (fun cdv A outer s H vs Q E hr h => ?_)
  · obtain ⟨_, _, _, _, rfl, _⟩ := h
    rfl
  · obtain ⟨p, q, n, m, rfl, mp, mq, k⟩ := h
    refine ⟨_, (pss_one (ps_ret (pe_and (pe_callB call_isi (by rfl) T.b_isinstance PyProof.Rows.boot_isinstance (pa_cons (pv 1) (pa_cons (pe_glob (v := .ref a.f_Mode) rfl T.mg_Mode rfl) pa_nil))) (pe_one (pe_cmpR op_eq (pe_fld (pv 0) rfl) (pe_fld (pv 1) rfl) (nomark _)))))), ?_⟩
    obtain ⟨dx, hp⟩ := id mp
    obtain ⟨dy, hq⟩ := id mq
    exact s_ret (v := .bl (decide (V.int n = V.int m))) (ev_is (ev_andV (a := true) (ev_isi (ea_cons (ev_var rfl) (ea_cons ev_c ea_nil)) (.own _) (fun H' e' => tyx_mode T (mq.mono e')) T.is_Mode) fun _ => ev_op (ev_fld (ev_var rfl) hp T.c_Mode T.n_number_Mode (by simp [List.lookup]; rfl)) (ev_fld (ev_var rfl) hq T.c_Mode T.n_number_Mode (by simp [List.lookup]; rfl)) (rv_eq rfl)) (by rw [Bool.true_and])) fun H1 e1 => k H1 e1
theorem ok_lchange (T : Txt w K mg a) : FnOk P w K mg base CX0 6 a.f__law_change a.d__law_change ["_law_pen_here", "_law_most"] spChange := by
  have G__law_draw : FnOk P w K mg base CX0 5 _ _ _ _ := (ok_draw T).mono (by decide)
  have G__law_clause : FnOk P w K mg base CX0 5 _ _ _ _ := ok_lclause T
  refine T.fn__law_change.ok sc__law_change (fun vs H Q E h => ?_) (fun cdv A outer s H vs Q E hr h => ?_)
  · obtain ⟨_, _, rfl, _⟩ := h
    rfl
  · obtain ⟨p, n, rfl, pen, hn, k⟩ := h
    have hrc : Room 5 _ := hr
    refine ⟨_, (pss_one (ps_ret (pe_lc (own := [("_law_k", 2)]) (g := gName 2) rfl sc__law_change.nd (pi_range1 rfl T.b_range (pa_cons (pe_op op_add pe_int (pe_call G__law_draw hrc rfl T.mg__law_draw T.fn__law_draw.kp (bd__law_draw T) .nil pass0 (pa_cons (pv 0) (pa_cons (pv 1) pa_nil)))) pa_nil)) (blkOk_by (own := [("_law_k", 2)]) (N := n__law_change) (sc := defScope s__law_change) (by decide +kernel)) (fun _ _ _ _ _ => (pg_name (i := 2) sc__law_change.nd rfl (Or.inl rfl))) (fun _ _ _ _ _ => pts_nil) (fun _ _ _ _ _ => (pe_call G__law_clause hrc rfl T.mg__law_clause T.fn__law_clause.kp (bd__law_clause T) .nil pass0 (pa_cons (pv 0) pa_nil)))))), ?_⟩
    obtain ⟨o, ho⟩ := pen.ex
    refine ⟨.ref p, rfl, .int 4, rfl, p, n, 4, rfl, pen, by omega, by decide, by decide, fun d H1 hd e1 pen1 => ?_⟩
    refine ⟨1, (d : Int), rfl, rfl, 1 + (d : Int), rfl, by omega, by omega, fun Dl hD => ?_⟩
    obtain ⟨o1, ho1⟩ := pen1.ex
    have Dp : Dl ≠ p := fun z => by rw [z, ho1] at hD; cases hD
    have HD : H Dl = none := by
      cases q : H Dl with
      | none => rfl
      | some u => rw [e1.ex _ _ q Dp] at hD; cases hD
    have nat : (1 + (d : Int)).toNat = d + 1 := by omega
    refine lc_range (fun i H' => ∃ (ts : List Addr) (cs : List Cl), cs.length = i ∧ ts.length = i ∧ (∀ c ∈ cs, clOk c) ∧ H' Dl = some (.lst (ts.map V.ref)) ∧ (∀ (j : Nat) (t : Addr) (c : Cl), ts[j]? = some t → cs[j]? = some c → t ≠ p ∧ t ≠ Dl ∧ H' t = some (.tup [.str c.1, .str c.2.1, .str c.2.2])) ∧ ExP p H H' ∧ PenAt H' p (n + 1 + 3 * i)) ?_ (fun i H' hi q => ?_) (fun H' q => ?_)
    · exact ⟨[], [], rfl, rfl, fun c m => (nomatch m), upd_same, fun j t c h => by simp at h, e1.trans (ExP.of (Ex.new hD)), pen1.keep (Ex.new hD)⟩
    · obtain ⟨ts, cs, l1, l2, ok, hl, tup, e, pen2⟩ := q
      have hi4 : i < 4 := by omega
      refine ⟨rfl, yes_at (iteT ?_)⟩
      refine ⟨.ref p, rfl, p, n + 1 + 3 * i, rfl, pen2, by omega, fun who sign what t H3 hwho hsign hwhat e3 pen3 tp tn ht => ?_⟩
      have hl3 := e3.ex _ _ hl Dp
      have tD : t ≠ Dl := fun z => by rw [z, hl] at tn; cases tn
      have bD : ExB Dl H3 (upd H3 Dl (.lst (ts.map V.ref ++ [.ref t]))) := fun b o hb ne => by rw [upd_ne ne]; exact hb
      have penD : PenAt (upd H3 Dl (.lst (ts.map V.ref ++ [.ref t]))) p (n + 1 + 3 * i + 3) := by
        obtain ⟨l, ns, at_, rest, h1, h2, h3, h4, h5, h6⟩ := pen3
        obtain ⟨l0, ns0, at0, rest0, g1, g2, _⟩ := pen
        obtain ⟨x', y', g3⟩ := (e.trans e3).fix l0 _ _ g1
        rw [h1] at g3
        cases g3
        exact ⟨l, ns, at_, rest, bD _ _ h1 Dp.symm, bD _ _ h2 (fun z => by rw [z, HD] at g2; cases g2), h3, h4, h5, h6⟩
      refine ⟨ts.map V.ref, hl3, sz_lt (by rw [List.length_map]; omega), ts ++ [t], cs ++ [(who, sign, what)], by rw [List.length_append, l1] <;> rfl, by rw [List.length_append, l2] <;> rfl, fun c m => ?_, by rw [upd_same, List.map_append] <;> rfl, fun j t' c h1 h2 => ?_, ?_, penD.le (by omega)⟩
      · rcases List.mem_append.mp m with m | m
        · exact ok c m
        · rw [List.mem_singleton.mp m]; exact ⟨hwho, hsign, hwhat⟩
      · by_cases hj : j < ts.length
        · rw [List.getElem?_append_left hj] at h1
          rw [List.getElem?_append_left (by rw [l1, ← l2]; exact hj)] at h2
          obtain ⟨a1, a2, a3⟩ := tup j t' c h1 h2
          exact ⟨a1, a2, bD _ _ (e3.ex _ _ a3 a1) a2⟩
        · have hj2 : j = ts.length := by
            have := (List.getElem?_eq_some_iff.mp h1).1
            rw [List.length_append] at this
            have e1 : ([t] : List Addr).length = 1 := rfl
            omega
          subst hj2
          rw [List.getElem?_append_right (Nat.le_refl _), Nat.sub_self] at h1
          rw [l2, ← l1, List.getElem?_append_right (Nat.le_refl _), Nat.sub_self] at h2
          obtain rfl : t = t' := Option.some.inj h1
          obtain rfl : (who, sign, what) = c := Option.some.inj h2
          exact ⟨tp, tD, bD _ _ ht tD⟩
      · refine ⟨fun b o hb ne => bD _ _ ((e.trans e3).ex _ _ hb ne) (fun z => by rw [z, HD] at hb; cases hb), fun l' x' y' q => ?_⟩
        obtain ⟨x2, y2, g⟩ := (e.trans e3).fix l' x' y' q
        exact ⟨x2, y2, bD _ _ g Dp.symm⟩
    · rw [nat] at q
      obtain ⟨ts, cs, l1, l2, ok, hl, tup, e, pen2⟩ := q
      exact k Dl cs H' (by omega) (by omega) ok Dp e (pen2.le (by omega)) ⟨ts, hl, by rw [l1, l2], fun j t c h1 h2 => (tup j t c h1 h2).2.2⟩
end
end KX
set_option Elab.async false
set_option linter.all false
set_option maxRecDepth 100000
set_option maxHeartbeats 4000000
namespace KX
open PySem PySem.Spec PyProof.Rows L2 Evl
local macro_rules | `(tactic| walk_at "ev") => `(tactic| repeat' (first | exact ev_c | exact ev_var rfl | exact rv_I0 | refine' rv_I ?_ | refine' rv_eq ?_ | refine' rv_ne ?_ | refine' ev_op ?_ ?_ ?_ | exact ea_nil | refine' ea_cons ?_ ?_ | refine' et_test ?_ | refine' et_B ?_ | refine' et_not ?_ | refine' ev_notV ?_))

open PySem
/-! the tables as data -/
def rowD (f : Nat → Nat) : PyData := .tuple ((List.range 8).map fun i => .int (f i : Nat))
def tabD (f : Nat → Nat → Nat) : PyData := .tuple [rowD (f 0), rowD (f 1), rowD (f 2), rowD (f 3)]
theorem dp_nats {K : PySem.W.Frag} {H : Hp} (f : Nat → Nat) : ∀ is : List Nat, DpAll K H (is.map fun i => V.int (f i : Nat)) (is.map fun i => PyData.int (f i : Nat))
  | [] => .nil
  | i :: is => .cons (.int _) (dp_nats f is)
theorem dp_row {K : PySem.W.Frag} {H : Hp} {p : Addr} {f : Nat → Nat} (h : SqT K H p (rowV f)) : Dp K H (.ref p) (rowD f) := .tup h (dp_nats f _)
theorem dp_tab {K : PySem.W.Frag} {H : Hp} {t : Addr} {f : Nat → Nat → Nat} (h : TabR K H t f) : Dp K H (.ref t) (tabD f) := by
  obtain ⟨t0, t1, t2, t3, h, h0, h1, h2, h3⟩ := h
  exact .tup h (.cons (dp_row h0) (.cons (dp_row h1) (.cons (dp_row h2) (.cons (dp_row h3) .nil))))
theorem row_show (f : Nat → Nat) (low : Low f) : (rowD f).showable = true ∧ (rowD f).hasDict = false ∧ (rowD f).depth ≤ 10 ∧ SeqAt.shaped (rowD f) = true := by
  have h : ∀ i, i < 8 → (f i) < 8 := low
  unfold rowD
  simp only [List.range, List.range.loop, List.map_cons, List.map_nil]
  have l : ∀ i, i < 8 → (f i).log2 < 1920 := fun i hi => by
    have h8 := h i hi
    have : ∀ n, n < 8 → n.log2 < 1920 := by decide
    exact this _ h8
  refine ⟨?_, ?_, ?_, ?_⟩
  · simp [PyData.showable, PyData.showableAll, l]
  · simp [PyData.hasDict, PyData.hasDictAll]
  · simp [PyData.depth, PyData.depthAll]
  · simp [SeqAt.shaped, PyData.canLay0, PyData.canLayAll0, PyData.depth, PyData.depthAll]
theorem row_len (f : Nat → Nat) (low : Low f) : (rowD f).leavesShort 8 = true ∧ (rowD f).weight ≤ 1000 := by
  have l : ∀ n, n < 8 → (PyData.shown (.int (n : Nat))).length ≤ 8 := by decide +kernel
  unfold rowD
  simp only [List.range, List.range.loop, List.map_cons, List.map_nil]
  refine ⟨?_, ?_⟩
  · simp [PyData.leavesShort, PyData.leavesShortAll, l _ (low _ _)]
  · have wt : ∀ n, n < 8 → (PyData.int (n : Nat)).weight ≤ 10 := by decide +kernel
    have w0 := wt _ (low 0 (by decide)); have w1 := wt _ (low 1 (by decide)); have w2 := wt _ (low 2 (by decide)); have w3 := wt _ (low 3 (by decide))
    have w4 := wt _ (low 4 (by decide)); have w5 := wt _ (low 5 (by decide)); have w6 := wt _ (low 6 (by decide)); have w7 := wt _ (low 7 (by decide))
    simp only [PyData.weight, PyData.weightAll] at w0 w1 w2 w3 w4 w5 w6 w7 ⊢
    omega
theorem tab_show (f : Nat → Nat → Nat) (low : ∀ k, Low (f k)) : (tabD f).showable = true ∧ (tabD f).hasDict = false ∧ (tabD f).depth ≤ 60 ∧ (tabD f).shown.length ≤ sizeLine ∧ SeqAt.shaped (tabD f) = true := by
  have r := fun k => row_show (f k) (low k)
  have n := fun k => row_len (f k) (low k)
  have d := fun k => (r k).2.2.1
  refine ⟨?_, ?_, ?_, ?_, ?_⟩
  · simp [tabD, PyData.showable, PyData.showableAll, (r _).1]
  · simp [tabD, PyData.hasDict, PyData.hasDictAll, (r _).2.1]
  · have d0 := d 0; have d1 := d 1; have d2 := d 2; have d3 := d 3
    simp only [tabD, PyData.depth, PyData.depthAll]
    omega
  · refine PyData.shown_fits (B := 8) (by decide) (by decide) ?_ ?_
    · simp [tabD, PyData.leavesShort, PyData.leavesShortAll, (n _).1]
    · have n0 := (n 0).2; have n1 := (n 1).2; have n2 := (n 2).2; have n3 := (n 3).2
      simp only [tabD, PyData.weight, PyData.weightAll]
      have : (2 : Nat) ^ 20 = 1048576 := by decide
      omega
  · have c : ∀ k, (rowD (f k)).canLay0 = true := fun k => (Bool.and_eq_true_iff.mp (r k).2.2.2).1
    have d0 := d 0; have d1 := d 1; have d2 := d 2; have d3 := d 3
    refine Bool.and_eq_true_iff.mpr ⟨by simp [tabD, PyData.canLay0, PyData.canLayAll0, c], decide_eq_true ?_⟩
    simp only [tabD, PyData.depth, PyData.depthAll]
    omega
/-! the text of a change, cut again -/
theorem no_comma : ∀ who0 ∈ allWho0, ∀ sign ∈ allSign, ∀ what ∈ allw, 44 ∉ (clT who0 sign what).cps.toList := by decide +kernel
theorem split_text {cs : List Cl} (ok : ∀ c ∈ cs, clOk c) (pos : 0 < cs.length) : Txt.split (Txt.join "," (cs.map clText)) "," = cs.map clText := by
  refine TL.split_join (y := ",") (s := 44) (S := []) (by decide +kernel) (by decide +kernel) (fun e => by
    have : (cs.map clText).length = 0 := by rw [e]; rfl
    rw [List.length_map] at this
    omega) fun p hp => ?_
  obtain ⟨c, hc, rfl⟩ := List.mem_map.mp hp
  have k := ok c hc
  exact no_comma _ (who0_in k.1) _ k.2.1 _ k.2.2
end KX
set_option Elab.async false
set_option linter.all false
set_option maxRecDepth 100000
set_option maxHeartbeats 4000000
namespace KX
open PySem PySem.Spec PyProof.Rows L2 Evl
local macro_rules | `(tactic| walk_at "ev") => `(tactic| repeat' (first | exact ev_c | exact ev_var rfl | exact rv_I0 | refine' rv_I ?_ | refine' rv_eq ?_ | refine' rv_ne ?_ | refine' ev_op ?_ ?_ ?_ | exact ea_nil | refine' ea_cons ?_ ?_ | refine' et_test ?_ | refine' et_B ?_ | refine' et_not ?_ | refine' ev_notV ?_))

open PySem
def gK2 (us ws : List V) : List V := match us, ws with | [x], [m, f] => [x, m, f] | _, _ => []
def gK2v (us ws : List Value) : List Value := match us, ws with | [x], [m, f] => [x, m, f] | _, _ => []
theorem kb_ch {w : World} {K : PySem.W.Frag} {mg : Str → Option Value} {a : Ads} (T : Txt w K mg a) : KBinds K a.d_ChangeD_callD ["self", "mode", "form"] ["mode", "form"] gK2v gK2 where
  to := fun s us ws X hl => by
    obtain ⟨oc, od, kV, doc, pm, an, cdv, ct, osl, e, lk, hcd⟩ := T.fn_ChangeD_callD.ex
    rw [e]
    match us, ws, hl with
    | [x], [f, m], _ => exact .of_eq rfl
  rel := fun {vs us zs ws} r1 r2 => by
    cases r1 with
    | nil => exact .nil
    | cons h1 t1 =>
      cases t1 with
      | cons _ _ => exact .nil
      | nil =>
        cases r2 with
        | nil => exact .nil
        | cons h2 t2 =>
          cases t2 with
          | nil => exact .nil
          | cons h3 t3 =>
            cases t3 with
            | nil => exact .cons h1 (.cons h2 (.cons h3 .nil))
            | cons _ _ => exact .nil
section
variable {X : Cx} {K : PySem.W.Frag} {a : Ads} {σ : L2.St} {H H' : Hp} {ta tb te tx tf tm tn tg t1 t2 : TE} {t tk : TA} {tt : TT} {x y z v : V} {r : R2} {D : Ends} {tz tu : TS} {E : XK} {g : TG} {cs : List Cl} {l p q : Addr} {zs : List V} {f : Nat → Nat → Nat} {form : Str} {n : Nat}
theorem ChangeAt.grow (m : ChangeAt K a H q cs) (e : ExB p H H') (hp : H p = some (.lst zs)) : ChangeAt K a H' q cs := by
  obtain ⟨dx, ct, tt, ps, h1, h2, h3, h4⟩ := m
  exact ⟨dx, ct, tt, ps, e _ _ h1 (fun z => by rw [z, hp] at h1; cases h1), grow_t e hp h2, h3.grow e hp, grow_tab e hp h4⟩
theorem ToldAt.grow (m : ToldAt H l cs) (e : ExB p H H') (hp : H p = some (.lst zs)) (ne : l ≠ p) : ToldAt H' l cs := by
  obtain ⟨ts, h1, h2, h3⟩ := m
  exact ⟨ts, e _ _ h1 ne, h2, fun i t c i1 i2 => e _ _ (h3 i t c i1 i2) fun z => by
    have := h3 i t c i1 i2
    rw [z, hp] at this
    cases this⟩
/-- a new tuple of two new tuples -/
def Ev2 (te : TE) (σ : L2.St) (H : Hp) (xs ys : List V) : Prop := ∀ H1, Ex H H1 → ∀ Q : VK, (∀ d p q H2, H1 d = none → Ex H1 H2 → H2 d = some (.tup [.ref p, .ref q]) → H2 p = some (.tup xs) → H2 q = some (.tup ys) → Q (.ref d) H2) → te σ H1 Q
theorem e2_tup {xs ys : List V} (h1 : EvU t1 σ H xs) (h2 : EvU t2 σ H ys) : Ev2 (tTup (tCons t1 (tCons t2 tNil))) σ H xs ys := fun H1 e Q q =>
  h1 H1 e _ fun p H2 _ e2 a => h2 H2 (e.trans e2) _ fun r H3 _ e3 b => ⟨by show 2 ≤ sizeLine; decide, fun d hd => q d p r _ (fresh_back (e2.trans e3) hd) ((e2.trans e3).trans (Ex.new hd)) upd_same (Ex.new hd _ _ (e3 _ _ a)) (Ex.new hd _ _ b)⟩
theorem q_asg2 {i : Nat} {xs ys : List V} (h : Ev2 te σ H xs ys) (k : ∀ d p q H1, Ex H H1 → H1 d = some (.tup [.ref p, .ref q]) → H1 p = some (.tup xs) → H1 q = some (.tup ys) → tz D (σ.set i (some (.ref d))) H1) : tSeq (tAsg te (gName i)) tz D σ H :=
  h H (Ex.refl H) _ fun d p q H1 _ e h0 h1 h2 => k d p q H1 e h0 h1 h2
theorem q_asgCat {i : Nat} {x1 x2 : V} {xs ys : List V} {d : Addr} (h0 : Ev ta σ H (.ref d)) (hd : H d = some (.tup [x1, x2])) (h : Ev2 te σ H xs ys) (k : ∀ d p q H1, Ex H H1 → H1 d = some (.tup [x1, x2, .ref p, .ref q]) → H1 p = some (.tup xs) → H1 q = some (.tup ys) → tz D (σ.set i (some (.ref d))) H1) :
    tSeq (tAsg (tOp (rCatT K) ta te) (gName i)) tz D σ H :=
  h0 H (Ex.refl H) _ fun H1 e1 => h H1 e1 _ fun d' p q H2 _ e2 b0 b1 b2 => ⟨d, d', [x1, x2], [.ref p, .ref q], rfl, rfl, st_of (e2 _ _ (e1 _ _ hd)), st_of b0, by simp, by show 4 ≤ sizeLine; decide, fun z => (nomatch z), fun _ u hu => k u p q _ ((e1.trans e2).trans (Ex.new hu)) upd_same (Ex.new hu _ _ b1) (Ex.new hu _ _ b2)⟩
theorem ev_repr {b : Addr} (h : Ev te σ H (.ref b)) (tab : TabR K H b f) (low : ∀ k, Low (f k)) : Ev (tCB (rRepr K) (tCons te tNil)) σ H (.str (tabD f).shown) := fun H1 e Q q => h H1 e _ fun H2 e2 => by
  obtain ⟨s1, s2, s3, s4, _⟩ := tab_show f low
  exact ⟨b, tabD f, rfl, dp_tab (tab.mono (e.trans e2)), s1, s2, s3, s4, q H2 e2⟩
theorem eqv_intsAll : ∀ a b : List Int, PyData.eqvAll (a.map PyData.int) (b.map PyData.int) = decide (a = b)
  | [], [] => by simp [PyData.eqvAll, PyData.eqv]
  | [], _ :: _ => by simp [PyData.eqvAll, PyData.eqv]
  | _ :: _, [] => by simp [PyData.eqvAll, PyData.eqv]
  | x :: a, y :: b => by
    have := eqv_intsAll a b
    simp only [List.map_cons, PyData.eqvAll, PyData.eqv, this]
    by_cases h : x = y <;> by_cases h2 : a = b <;> simp [h, h2]
theorem rv_neRow {b c : Addr} {f : Nat → Nat} (h1 : SqT K H b (rowV f)) (h2 : SqT K H c (rowV f)) (low : Low f) : RV (rNeD K) (.ref b) (.ref c) H (.bl false) := fun H1 e Q k =>
  ⟨rowD f, rowD f, dp_row (ex_t e h1), dp_row (ex_t e h2), (row_show f low).2.2.2, (row_show f low).2.2.2, by
    have : PyData.eqv (rowD f) (rowD f) = true := by
      unfold rowD
      rw [show PyData.eqv (.tuple ((List.range 8).map fun i => .int (f i : Nat))) (.tuple ((List.range 8).map fun i => .int (f i : Nat))) = PyData.eqvAll (((List.range 8).map fun i => ((f i : Nat) : Int)).map PyData.int) (((List.range 8).map fun i => ((f i : Nat) : Int)).map PyData.int) by simp [PyData.eqv, List.map_map]; rfl, eqv_intsAll, decide_eq_true rfl]
    rw [this]
    exact k H1 (Ex.refl H1)⟩
theorem rv_neI {b c : Addr} {ns : List Int} (h1 : H b = some (.lst (ns.map V.int))) (h2 : H c = some (.lst (ns.map V.int))) : RV (rNeD K) (.ref b) (.ref c) H (.bl false) := fun H1 e Q k =>
  ⟨.list (ns.map PyData.int), .list (ns.map PyData.int), .lst (sq_of (e _ _ h1)) (dp_ints ns), .lst (sq_of (e _ _ h2)) (dp_ints ns), PySem.W.ke_shaped_ints ns, PySem.W.ke_shaped_ints ns, by
    rw [show PyData.eqv (.list (ns.map PyData.int)) (.list (ns.map PyData.int)) = PyData.eqvAll (ns.map PyData.int) (ns.map PyData.int) by simp [PyData.eqv], eqv_intsAll, decide_eq_true rfl]
    exact k H1 (Ex.refl H1)⟩
theorem em_chOM (hf : Ev tf σ H (.ref p)) (hm : EvM a tm σ H n) (hg : Ev tg σ H (.str form)) (ch : ChangeAt K a H p cs) (ok : ∀ c ∈ cs, clOk c) (fm : form ∈ forms) (hn : n < 512) :
    EvM a (StX.tCallO X a.f_Change (fun vs H Q E => spChCall K a (vs ++ []) H Q E) E tf (tCons tm (tCons tg tNil))) σ H (foldN cs n form) := fun H1 e Q q =>
  hf H1 e _ fun H2 e2 => ⟨p, rfl, hm H2 (e.trans e2) _ fun m H3 _ e3 hm3 => hg H3 ((e.trans e2).trans e3) _ fun H4 e4 => by
    have c4 := ch.mono (((e.trans e2).trans e3).trans e4)
    obtain ⟨dx, ct, tt, ps, ho, _⟩ := id c4
    exact ⟨.inr ⟨dx, _, ho⟩, p, .ref m, n, cs, form, rfl, c4, ok, fm, hn, .inr ⟨m, rfl, hm3.mono e4⟩, fun q' H5 hq e5 m5 => q q' H5 (fresh_back ((e2.trans e3).trans e4) hq) (((e2.trans e3).trans e4).trans e5) m5⟩⟩
theorem em_chOK (hf : Ev tf σ H (.ref p)) (hm : Ev tn σ H (.int n)) (hg : Ev tg σ H (.str form)) (ch : ChangeAt K a H p cs) (ok : ∀ c ∈ cs, clOk c) (fm : form ∈ forms) (hn : n < 512) :
    EvM a (tCallOK a.f_Change (spChCall K a) gK2 E tf (tCons tn (tCons tg tNil))) σ H (foldN cs n form) := fun H1 e Q q =>
  hf H1 e _ fun H2 e2 => ⟨p, rfl, hm H2 (e.trans e2) _ fun H3 e3 => hg H3 ((e.trans e2).trans e3) _ fun H4 e4 => by
    have c4 := ch.mono (((e.trans e2).trans e3).trans e4)
    obtain ⟨dx, ct, tt, ps, ho, _⟩ := id c4
    exact ⟨⟨dx, _, ho⟩, p, .int n, n, cs, form, rfl, c4, ok, fm, hn, .inl rfl, fun q' H5 hq e5 m5 => q q' H5 (fresh_back ((e2.trans e3).trans e4) hq) (((e2.trans e3).trans e4).trans e5) m5⟩⟩
/-- i, j = two new modes -/
theorem q_asgMM {i j n1 n2 : Nat} (h1 : EvM a t1 σ H n1) (h2 : EvM a t2 σ H n2) (k : ∀ b c H1, Ex H H1 → ModeAt a H1 b n1 → ModeAt a H1 c n2 → tz D ((σ.set i (some (.ref b))).set j (some (.ref c))) H1) : tSeq (tAsg (tTup (tCons t1 (tCons t2 tNil))) (gTup K 2 (gCons (gName i) (gCons (gName j) gNil)))) tz D σ H :=
  h1 H (Ex.refl H) _ fun b H1 _ e1 m1 => h2 H1 e1 _ fun c H2 _ e2 m2 => ⟨by show 2 ≤ sizeLine; decide, fun T hT => ⟨T, _, rfl, st_of upd_same, rfl, _, _, rfl, _, _, rfl, rfl, k b c _ ((e1.trans e2).trans (Ex.new hT)) (m1.mono (e2.trans (Ex.new hT))) (m2.mono (Ex.new hT))⟩⟩
theorem rv_ownI {b c : Addr} {n m : Nat} (h1 : ModeAt a H b n) (h2 : ModeAt a H c m) : RV (rOwnI K a.f_Mode (fun vs H Q E => spMEq a (vs ++ []) H Q E) E) (.ref b) (.ref c) H (.bl (decide (V.int n = V.int m))) := fun H1 e Q k => by
  have m1 := h1.mono e
  have m2 := h2.mono e
  obtain ⟨dx, o1⟩ := id m1
  obtain ⟨dy, o2⟩ := id m2
  exact ⟨b, dx, _, c, dy, _, rfl, rfl, o1, o2, b, c, n, m, rfl, m1, m2, k⟩
theorem s_forNT {xs : List V} {tl : TE} (h : EvU tl σ H xs) (Pv : Addr → Nat → L2.St → Hp → Prop) (h0 : ∀ p H1, H p = none → Ex H H1 → H1 p = some (.tup xs) → Pv p 0 σ H1) (hl : ∀ p i σ' H', i ≤ xs.length → Pv p i σ' H' → SqT K H' p xs)
    (hs : ∀ p i x σ' H', xs[i]? = some x → Pv p i σ' H' → g x σ' H' fun σ2 H2 => tu { D with nx := Pv p (i + 1), ct := Pv p (i + 1), bk := D.nx } σ2 H2) (hd : ∀ p σ' H', Pv p xs.length σ' H' → D.nx σ' H') : tFor (iTup K tl) g tu D σ H :=
  h H (Ex.refl H) _ fun p H1 hp e h1 => ⟨p, rfl, ⟨xs, st_of h1⟩, for_tup (Pv p) (h0 p H1 hp e h1) (hl p) (hs p) (hd p)⟩
end
theorem form_at {k : Nat} {x : V} (h : ([.str "file", .str "folder"] : List V)[k]? = some x) : ∃ form ∈ forms, x = .str form := by
  have := List.mem_of_getElem? h
  rcases List.mem_cons.mp this with rfl | this
  · exact ⟨"file", by decide +kernel, rfl⟩
  · rw [List.mem_singleton.mp this]
    exact ⟨"folder", by decide +kernel, rfl⟩
end KX
set_option Elab.async false
set_option linter.all false
set_option maxRecDepth 100000
set_option maxHeartbeats 4000000
namespace KX
open PySem PySem.Spec PyProof.Rows L2 Evl
local macro_rules | `(tactic| walk_at "ev") => `(tactic| repeat' (first | exact ev_c | exact ev_var rfl | exact rv_I0 | refine' rv_I ?_ | refine' rv_eq ?_ | refine' rv_ne ?_ | refine' ev_op ?_ ?_ ?_ | exact ea_nil | refine' ea_cons ?_ ?_ | refine' et_test ?_ | refine' et_B ?_ | refine' et_not ?_ | refine' ev_notV ?_))

open PySem
/-! ### C.m(..), m a staticmethod; o.m(k = v) of an own method -/
def tSMeth (C : Addr) (sp : Sp) (E : XK) (ta : TE) (t : TA) : TE := fun σ H Q => ta σ H fun x H1 => x = .ref C ∧ t σ H1 fun vs H2 => sp vs H2 Q E
def tSMethK (C : Addr) (sp : Sp) (gV : List V → List V → List V) (E : XK) (ta : TE) (tk : TA) : TE := fun σ H Q => ta σ H fun x H1 => x = .ref C ∧ tk σ H1 fun zs H2 => sp (gV [] zs) H2 Q E
def tMethK (C : Addr) (m : Str) (sp : Sp) (gV : List V → List V → List V) (E : XK) (ta : TE) (tk : TA) : TE := fun σ H Q => ta σ H fun x H1 => ∃ a dx fs, x = .ref a ∧ H1 a = some (.ins C dx fs) ∧ fs.lookup m = none ∧ tk σ H1 fun zs H2 => sp (gV [x] zs) H2 Q E
section
variable {X : Cx} {CX : CXT} {k : Nat} {C p g : Addr} {sp : Sp} {E : XK} {o e : Expr} {es : List Expr} {m : Str} {pos apos : Pos} {ta : TE} {t tk : TA} {fd : FuncData} {ps ks : List Str} {kws : List Keyword} {gg : List Value → List Value → List Value} {gV : List V → List V → List V}
theorem getsm_ok {pl : Sem Bool} {pins : List (Addr × Obj)} {σ : L2.St} {H : Hp} {s : Shared} {A : Around} {E : Value → Shared → Prop} {Q : Value × List Value → Shared → Prop} (I : Inv X pins σ H s) (r : ClX.CRead X.K C (.type "type")) (c : SMet X.K C m p g)
    (h : ∀ s', Inv X pins σ H s' → Q (.ref g, []) s') : wpAny (model X.prog X.w) A (getMethod (.ref C) m pl) Q E s := by
  obtain ⟨rest, hp⟩ := c.rc
  refine PySem.W.method_cls I.kIn r.ga (PySem.W.cls_bind I.kIn r.rd c.at_ ?_)
  exact wpAny_call (PySem.W.sm_get (s := { s with toks := s.toks + 1 }) I.kIn hp (PySem.W.handed_on rfl (h _ (I.tok _))))
theorem pe_smeth {pl : Sem Bool} (he : PE X o ta) (r : ClX.CRead X.K C (.type "type")) (c : SMet X.K C m p g) (F : FnR X.prog X.w X.K X.mg X.base CX k g sp) (hr : Room k X.A) (hx : Passes CX X E) (ha : PA X (e :: es) t)
    (hst : starEach (e :: es) X.env = (false, eval e X.env) :: starEach es X.env := by rfl) (hpl : (backTo pos (starEach es X.env)).any (·.1) = false := by rfl)
    (ht : eval (.Call (.Attribute o m apos) (e :: es) [] pos) X.env = (do
      let ov ← eval o X.env
      standAt apos.atName
      let (f, first) ← holding [ov] (getMethod ov m pl)
      callWith pos f first (backTo pos (starEach (e :: es) X.env)) (backToKw pos (keywordEach [] X.env))) := by rfl) :
    PE X (.Call (.Attribute o m apos) (e :: es) [] pos) (tSMeth C sp E ta t) := by
  refine ⟨fun pins s σ H Q I h => ?_⟩
  refine PySem.W.methodCall_KW (pl := pl) (thn (he.run pins s σ H _ I h) fun u s1 ⟨x, H1, I1, rx, ex, q⟩ => ?_) ht
  subst ex
  obtain rfl : u = Value.ref C := rx
  refine getsm_ok I1 r c fun s2 I2 => ?_
  refine PySem.W.callWith_K (first := []) (h₀ := X.base) I2.ok.mod.kin c.kp (thn (ha.run pos pins s2 σ H1 _ I2 q) fun us s3 ⟨vs, H2, I3, rv, q2⟩ => ⟨I3.kIn, ?_⟩) hst hpl
  exact wpAny_call (run_fnR (us := us) (vs := vs) F hr hx I3 rv q2)
theorem pe_smethK {pl : Sem Bool} (he : PE X o ta) (r : ClX.CRead X.K C (.type "type")) (c : SMet X.K C m p g) (F : FnOk X.prog X.w X.K X.mg X.base CX k g fd ps sp) (hr : Room k X.A) (hb : KBinds X.K fd ps ks gg gV) (hx : Passes CX X E) (hkw : PK X kws tk)
    (hall : (backToKw pos (keywordEach kws X.env)).all (·.1.isSome) = true := by rfl) (hks : (backToKw pos (keywordEach kws X.env)).filterMap (·.1) = ks := by rfl)
    (hpl : ((backTo pos (starEach [] X.env)).any (·.1) || (backToKw pos (keywordEach kws X.env)).any (·.1.isNone)) = false := by rfl)
    (ht : eval (.Call (.Attribute o m apos) [] kws pos) X.env = (do
      let ov ← eval o X.env
      standAt apos.atName
      let (f, first) ← holding [ov] (getMethod ov m pl)
      callWith pos f first (backTo pos (starEach [] X.env)) (backToKw pos (keywordEach kws X.env))) := by rfl) :
    PE X (.Call (.Attribute o m apos) [] kws pos) (tSMethK C sp gV E ta tk) := by
  refine ⟨fun pins s σ H Q I h => ?_⟩
  refine PySem.W.methodCall_KW (pl := pl) (thn (he.run pins s σ H _ I h) fun u s1 ⟨x, H1, I1, rx, ex, q⟩ => ?_) ht
  subst ex
  obtain rfl : u = Value.ref C := rx
  refine getsm_ok I1 r c fun s2 I2 => ?_
  refine PySem.W.callWith_KW0 (first := []) (h₀ := X.base) I2.ok.mod.kin c.kp hall (thn (hkw.run pos pins s2 σ H1 _ I2 q) fun ws s3 ⟨zs, H2, I3, rz, q2⟩ => ⟨I3.kIn, ?_⟩) hpl
  rw [hks]
  exact run_fnk (us := []) (vs := []) F hr hb hx I3 .nil rz q2
theorem pe_methK {pl : Sem Bool} (he : PE X o ta) (c : Cls X.K C) (hm : Meth X.K C m g) (F : FnOk X.prog X.w X.K X.mg X.base CX k g fd ps sp) (hr : Room k X.A) (hb : KBinds X.K fd ps ks gg gV) (hx : Passes CX X E) (hkw : PK X kws tk)
    (hall : (backToKw pos (keywordEach kws X.env)).all (·.1.isSome) = true := by rfl) (hks : (backToKw pos (keywordEach kws X.env)).filterMap (·.1) = ks := by rfl)
    (hpl : ((backTo pos (starEach [] X.env)).any (·.1) || (backToKw pos (keywordEach kws X.env)).any (·.1.isNone)) = false := by rfl)
    (ht : eval (.Call (.Attribute o m apos) [] kws pos) X.env = (do
      let ov ← eval o X.env
      standAt apos.atName
      let (f, first) ← holding [ov] (getMethod ov m pl)
      callWith pos f first (backTo pos (starEach [] X.env)) (backToKw pos (keywordEach kws X.env))) := by rfl) :
    PE X (.Call (.Attribute o m apos) [] kws pos) (tMethK C m sp gV E ta tk) := by
  refine ⟨fun pins s σ H Q I h => ?_⟩
  refine PySem.W.methodCall_KW (pl := pl) (thn (he.run pins s σ H _ I h) fun u s1 ⟨x, H1, I1, rx, a, dx, fs, ex, ea, l, q⟩ => ?_) ht
  subst ex
  obtain rfl : u = Value.ref a := rx
  refine getmeth_ok I1 ea c hm l ?_
  refine PySem.W.callWith_KW0 (first := [.ref a]) (h₀ := X.base) I1.ok.mod.kin hm.kp hall (thn (hkw.run pos pins s1 σ H1 _ I1 q) fun ws s3 ⟨zs, H2, I3, rz, q2⟩ => ⟨I3.kIn, ?_⟩) hpl
  rw [hks]
  exact run_fnk (us := [.ref a]) (vs := [.ref a]) F hr hb hx I3 (.cons rfl .nil) rz q2
end
/-! ### dicts whose keys are tuples of tuples of numbers -/
abbrev NRow := List (List Nat)
def nkey (rows : NRow) : NestedKey := .tup (rows.map fun r => .tup (r.map fun (n : Nat) => NestedKey.num (n : Int)))
/-- the tuple of tuples rows stands at b -/
def NK (K : PySem.W.Frag) (H : Hp) (b : Addr) (rows : NRow) : Prop := ∃ cs : List Addr, SqT K H b (cs.map V.ref) ∧ cs.length = rows.length ∧ ∀ (i : Nat) (c : Addr) (r : List Nat), cs[i]? = some c → rows[i]? = some r → SqT K H c (r.map fun (n : Nat) => V.int (n : Int))
theorem NK.mono {K : PySem.W.Frag} {H H' : Hp} {b : Addr} {rows : NRow} (h : NK K H b rows) (e : Ex H H') : NK K H' b rows := by
  obtain ⟨cs, h1, h2, h3⟩ := h
  exact ⟨cs, ex_t e h1, h2, fun i c r a b => ex_t e (h3 i c r a b)⟩
/-- an entry: the rows of its key, where the key stands, its number -/
structure NEnt where
  rows : NRow
  ad : Addr
  num : Nat
  tok : Tok
def NEnt.raw (x : NEnt) : NestedKey × Addr × Value := (nkey x.rows, x.ad, .int (x.num : Int) x.tok)
def DN0 (P : Program) (w : World) (h : Heap) (d : Addr) (xs : List NEnt) : Prop := (d == sysModules) = false ∧ xs.length ≤ 100000 ∧ ∃ o es ep, h.get? d = some o ∧ o.ExactDict ∧ o.data = .dict es ep ∧ es.toList = (xs.map NEnt.raw).map (entryOfKey (nestedKind P w)) ∧ ((xs.map NEnt.raw).map (·.1)).Nodup
def DNO (P : Program) (w : World) (d : Addr) (xs : List NEnt) : HO := .ext fun h => DN0 P w h d xs
theorem dno_new {P : Program} {w : World} {H : Hp} {h : Heap} {d : Addr} {xs : List NEnt} (R : DN0 P w h d xs) : ObjOk P w H h d (DNO P w d xs) := by
  obtain ⟨e1, e2, o, es, ep, ho, r⟩ := id R
  refine ⟨R, ⟨o, ho⟩, fun h1 h2 p k => ?_⟩
  obtain ⟨_, _, o', es', ep', ho', r'⟩ := p
  exact ⟨e1, e2, o', es', ep', k o' ho', r'⟩
theorem depth_row : ∀ r : List Nat, NestedKey.depthAll (r.map fun (n : Nat) => NestedKey.num (n : Int)) = 0
  | [] => rfl
  | n :: r => by
    simp only [List.map_cons, NestedKey.depthAll, NestedKey.depth, depth_row r]
    rfl
theorem depth_rows : ∀ rows : NRow, NestedKey.depthAll (rows.map fun r => NestedKey.tup (r.map fun (n : Nat) => NestedKey.num (n : Int))) ≤ 1
  | [] => Nat.zero_le _
  | r :: rows => by
    have := depth_rows rows
    simp only [List.map_cons, NestedKey.depthAll, NestedKey.depth, depth_row r]
    omega
theorem nkey_depth (rows : NRow) : (nkey rows).depth ≤ 8 := by
  have := depth_rows rows
  unfold nkey
  simp only [NestedKey.depth]
  omega
theorem nums_inj : ∀ a b : List Nat, (a.map fun (n : Nat) => NestedKey.num (n : Int)) = (b.map fun (n : Nat) => NestedKey.num (n : Int)) → a = b
  | [], [], _ => rfl
  | [], _ :: _, h => by simp at h
  | _ :: _, [], h => by simp at h
  | x :: a, y :: b, h => by
    simp only [List.map_cons, List.cons.injEq, NestedKey.num.injEq] at h
    rw [nums_inj a b h.2, show x = y by omega]
theorem rows_inj : ∀ a b : NRow, (a.map fun r => NestedKey.tup (r.map fun (n : Nat) => NestedKey.num (n : Int))) = (b.map fun r => NestedKey.tup (r.map fun (n : Nat) => NestedKey.num (n : Int))) → a = b
  | [], [], _ => rfl
  | [], _ :: _, h => by simp at h
  | _ :: _, [], h => by simp at h
  | x :: a, y :: b, h => by
    simp only [List.map_cons, List.cons.injEq, NestedKey.tup.injEq] at h
    rw [rows_inj a b h.2, nums_inj x y h.1]
theorem nkey_inj {a b : NRow} (h : nkey a = nkey b) : a = b := by
  unfold nkey at h
  injection h with h
  exact rows_inj a b h
theorem nested_ints {h : Heap} : ∀ {r : List Nat} {us : List Value}, Vals (r.map fun (n : Nat) => V.int (n : Int)) us → NestedAll h (r.map fun (n : Nat) => NestedKey.num (n : Int)) us
  | [], _, .nil => .nil
  | n :: r, _, .cons q t => by
    obtain ⟨tk, rfl⟩ := q
    exact .cons (.int _ tk) (nested_ints t)
section
variable {X : Cx} {pins : List (Addr × Obj)} {σ : L2.St} {H : Hp} {s : Shared}
theorem nk_row (I : Inv X pins σ H s) {c : Addr} {r : List Nat} (h : SqT X.K H c (r.map fun (n : Nat) => V.int (n : Int))) : NestedIs s.heap (.tup (r.map fun (n : Nat) => NestedKey.num (n : Int))) (.ref c) := by
  obtain ⟨its, rv, ⟨o, ho, hc, n, hd⟩, _⟩ := I.tuple h
  exact .tup ho hc hd (by simpa using nested_ints rv)
theorem nk_all (I : Inv X pins σ H s) : ∀ {cs : List Addr} {rows : NRow} {us : List Value}, Vals (cs.map V.ref) us → cs.length = rows.length → (∀ (i : Nat) (c : Addr) (r : List Nat), cs[i]? = some c → rows[i]? = some r → SqT X.K H c (r.map fun (n : Nat) => V.int (n : Int))) →
    NestedAll s.heap (rows.map fun r => .tup (r.map fun (n : Nat) => NestedKey.num (n : Int))) us
  | [], [], _, .nil, _, _ => .nil
  | [], _ :: _, _, _, hl, _ => by simp at hl
  | _ :: _, [], _, _, hl, _ => by simp at hl
  | c :: cs, r :: rows, _, .cons q t, hl, h => by
    obtain rfl : _ = Value.ref c := q
    exact .cons (nk_row I (h 0 c r rfl rfl)) (nk_all I t (by simpa using hl) fun i c' r' a b => h (i + 1) c' r' (by simpa using a) (by simpa using b))
theorem nk_is (I : Inv X pins σ H s) {b : Addr} {rows : NRow} (h : NK X.K H b rows) : (nestedKind X.prog X.w).is s.heap (nkey rows) b := by
  obtain ⟨cs, h1, h2, h3⟩ := h
  obtain ⟨its, rv, ⟨o, ho, hc, n, hd⟩, _⟩ := I.tuple h1
  exact ⟨.tup ho hc hd (by simpa using nk_all I rv h2 h3), nkey_depth rows⟩
theorem dn_of (I : Inv X pins σ H s) {d : Addr} {xs : List NEnt} (h : H d = some (DNO X.prog X.w d xs)) (hk : ∀ x ∈ xs, NK X.K H x.ad x.rows) : (d == sysModules) = false ∧ xs.length ≤ 100000 ∧ s.heap.DictOfH (nestedKind X.prog X.w) d (xs.map NEnt.raw) := by
  obtain ⟨⟨e1, e2, o, es, ep, ho, h2, h3, h4, h5⟩, _⟩ := I.hok d _ h
  refine ⟨e1, e2, o, es, ep, ho, h2, h3, h4, fun x hx => ?_, h5⟩
  obtain ⟨y, hy, rfl⟩ := List.mem_map.mp hx
  exact nk_is I (hk y hy)
end
def nfind (xs : List NEnt) (rows : NRow) : Option NEnt := xs.find? fun x => decide (x.rows = rows)
theorem atKey_raw : ∀ (xs : List NEnt) (rows : NRow), atKey (xs.map NEnt.raw) (nkey rows) = (nfind xs rows).map fun x => (x.ad, Value.int (x.num : Int) x.tok)
  | [], _ => rfl
  | x :: xs, rows => by
    have ih := atKey_raw xs rows
    unfold atKey nfind at ih ⊢
    by_cases h : x.rows = rows
    · rw [List.map_cons, List.find?_cons_of_pos (by rw [show (NEnt.raw x).1 = nkey x.rows from rfl, h]; simp), List.find?_cons_of_pos (by simp [h])]
      rfl
    · rw [List.map_cons, List.find?_cons_of_neg (by rw [show (NEnt.raw x).1 = nkey x.rows from rfl]; simp only [decide_eq_true_eq]; exact fun z => h (nkey_inj z)), List.find?_cons_of_neg (by simp [h])]
      exact ih
def tDNewN (P : Program) (w : World) : TE := fun _ H Q => ∀ p, H p = none → Q (.ref p) (upd H p (DNO P w p []))
def rNotInN (K : PySem.W.Frag) (P : Program) (w : World) : R2 := fun x y H Q => ∃ (b d : Addr) (rows : NRow) (xs : List NEnt), x = .ref b ∧ y = .ref d ∧ NK K H b rows ∧ H d = some (DNO P w d xs) ∧ (∀ x ∈ xs, NK K H x.ad x.rows) ∧ Q (.bl (!(nfind xs rows).isSome)) H
def rIxN (K : PySem.W.Frag) (P : Program) (w : World) : R2 := fun x y H Q => ∃ (b d : Addr) (rows : NRow) (xs : List NEnt) (e : NEnt), x = .ref d ∧ y = .ref b ∧ NK K H b rows ∧ H d = some (DNO P w d xs) ∧ (∀ x ∈ xs, NK K H x.ad x.rows) ∧ nfind xs rows = some e ∧ Q (.int (e.num : Int)) H
def rSetN (K : PySem.W.Frag) (P : Program) (w : World) : TSet := fun o i v H Q => ∃ (b d : Addr) (rows : NRow) (xs : List NEnt) (n : Nat), o = .ref d ∧ i = .ref b ∧ v = .int (n : Int) ∧ NK K H b rows ∧ H d = some (DNO P w d xs) ∧ (∀ x ∈ xs, NK K H x.ad x.rows) ∧ nfind xs rows = none ∧ xs.length < 100000 ∧
  ∀ t : Tok, Q (upd H d (DNO P w d (xs ++ [NEnt.mk rows b n t])))
def rLenN (K : PySem.W.Frag) (P : Program) (w : World) : List V → Hp → VK → Prop := fun xs H Q => ∃ (d : Addr) (es : List NEnt), xs = [.ref d] ∧ H d = some (DNO P w d es) ∧ (∀ x ∈ es, NK K H x.ad x.rows) ∧ Q (.int ((es.length : Nat) : Int)) H
section
variable {X : Cx} {pos : Pos}
theorem pe_dnewN : PE X (.Dict [] [] pos) (tDNewN X.prog X.w) := ⟨fun pins s σ H Q I h =>
  wpAny_Dict_empty ⟨.ref s.heap.objs.size, _, I.laid (a := s.heap.objs.size) (o := DNO X.prog X.w s.heap.objs.size []) (t' := s.toks) (fun _ _ q => Heap.get?_push_of_some _ q) (Nat.le_refl _) (dno_new ⟨beq_eq_false_iff_ne.mpr (Ne.symm (Nat.ne_of_lt I.big)), Nat.zero_le _, _, #[], 0, Heap.get?_push_size _ rfl, ⟨rfl, rfl, rfl⟩, rfl, rfl, List.nodup_nil⟩), rfl, h _ (I.hok.fresh (Nat.le_refl _))⟩⟩
theorem op_notInN (hu : X.A.units + 16 < cLine) : OpR X (compareOp .NotIn) (rNotInN X.K X.prog X.w) := by
  intro pins s σ H x y v u Q I rx ry h
  obtain ⟨b, d, rows, xs, rfl, rfl, hb, hd, hk, q⟩ := h
  obtain rfl : v = Value.ref b := rx
  obtain rfl : u = Value.ref d := ry
  obtain ⟨e1, e2, dd⟩ := dn_of I hd hk
  refine notIn_keyed (knd := nestedKind X.prog X.w) (by show X.A.units + 1 + 8 < cLine; omega) (nk_is I hb) e1 ⟨_, dd, rfl⟩ ?_
  rw [valueAt_pairsH, Option.isSome_map, atKey_raw, Option.isSome_map]
  exact ⟨.bl (!(nfind xs rows).isSome), H, I.tok _, rfl, q⟩
theorem ix_dictN (hu : X.A.units + 16 < cLine) : IxR X (rIxN X.K X.prog X.w) := by
  intro value slice pins s σ H x y v u Q I rx ry h hs
  obtain ⟨b, d, rows, xs, e, rfl, rfl, hb, hd, hk, hf, q⟩ := h
  obtain rfl : u = Value.ref b := ry
  obtain rfl : v = Value.ref d := rx
  obtain ⟨e1, e2, dd⟩ := dn_of I hd hk
  refine tail_any dd.typeIs PySem.F.slot_dict_getitem.lookup (getItem_keyed (knd := nestedKind X.prog X.w) (by show X.A.units + 1 + 8 < cLine; omega) (nk_is I hb) ⟨_, dd, rfl⟩ (v := Value.int (e.num : Int) e.tok) ?_ ⟨.int (e.num : Int), H, I.tok _, ⟨_, rfl⟩, q⟩) hs
  rw [valueAt_pairsH, atKey_raw, hf]
  rfl
theorem set_dictN (hu : X.A.units + 16 < cLine) : PSet X (rSetN X.K X.prog X.w) := by
  intro pins s σ H o i v ov iv u Q I ro ri rv h
  obtain ⟨b, d, rows, xs, n, rfl, rfl, rfl, hb, hd, hk, hf, hl, q⟩ := h
  obtain rfl : ov = Value.ref d := ro
  obtain rfl : iv = Value.ref b := ri
  obtain ⟨t, rfl⟩ := rv
  obtain ⟨e1, e2, dd⟩ := dn_of I hd hk
  refine wpAny_setItem_heap (knd := nestedKind X.prog X.w) (hsz := by rw [List.length_map]; exact sz_of e2) (by show X.A.units + 1 + 8 < cLine; omega) (nk_is I hb) dd fun h' dd' hs => ?_
  have none_ : atKey (xs.map NEnt.raw) (nkey rows) = none := by rw [atKey_raw, hf]; rfl
  have st : storedH (xs.map NEnt.raw) (nkey rows) b (Value.int (n : Int) t) = (xs ++ [NEnt.mk rows b n t]).map NEnt.raw := by
    rw [storedH_new none_, List.map_append]
    rfl
  rw [st] at dd'
  obtain ⟨o, es, ep, ho, h2, h3, h4, _, h5⟩ := dd'
  refine ⟨_, d_write (ob := DNO X.prog X.w d (xs ++ [NEnt.mk rows b n t])) I (by rw [hd]; exact True.intro) hs ⟨o, ho⟩ (dno_new (P := X.prog) (w := X.w) (d := d) (xs := xs ++ [NEnt.mk rows b n t]) ⟨e1, by rw [List.length_append]; show xs.length + 1 ≤ 100000; omega, o, es, ep, ho, h2, h3, h4, h5⟩), q t⟩
theorem call_lenN : CallR X (.builtin "len") (rLenN X.K X.prog X.w) := by
  intro pins s σ H xs us Q I r h
  obtain ⟨d, es, rfl, hd, hk, q⟩ := h
  obtain ⟨u, rfl, ru⟩ := r.one
  obtain rfl : u = Value.ref d := ru
  obtain ⟨e1, e2, dd⟩ := dn_of I hd hk
  refine call_len_dictH e1 dd (by rw [List.length_map]; omega) ?_
  rw [List.length_map]
  exact ⟨.int ((es.length : Nat) : Int), H, I.tok _, ⟨_, rfl⟩, q⟩
end
end KX
set_option Elab.async false
set_option linter.all false
set_option maxRecDepth 100000
set_option maxHeartbeats 4000000
namespace KX
open PySem PySem.Spec PyProof.Rows L2 Evl
local macro_rules | `(tactic| walk_at "ev") => `(tactic| repeat' (first | exact ev_c | exact ev_var rfl | exact rv_I0 | refine' rv_I ?_ | refine' rv_eq ?_ | refine' rv_ne ?_ | refine' ev_op ?_ ?_ ?_ | exact ea_nil | refine' ea_cons ?_ ?_ | refine' et_test ?_ | refine' et_B ?_ | refine' et_not ?_ | refine' ev_notV ?_))

open PySem
def letL : List Str := ["", "x", "w", "wx", "r", "rx", "rw", "rwx"]
def letN (d : Nat) : Str := letL.getD d ""
def wlet (c : Nat) : Nat := if c = 114 then 4 else if c = 119 then 2 else 1
theorem let_is : ∀ d : Nat, d < 8 → Txt.join "" ((("rwx" : Str).cps.toList.filter fun c => (Builtin.bitAnd (d : Int) (wlet c : Nat) != 0)).map fun c => (⟨#[c]⟩ : Str)) = letN d := by
  have h : ((List.range 8).all fun (d : Nat) => decide (Txt.join "" ((("rwx" : Str).cps.toList.filter fun c => (Builtin.bitAnd (d : Int) (wlet c : Nat) != 0)).map fun c => (⟨#[c]⟩ : Str)) = letN d)) = true := by decide +kernel
  exact fun d hd => of_decide_eq_true (all_nat h d hd)
theorem let_in : ∀ d : Nat, d < 8 → letN d ∈ allw := by
  have h : ((List.range 8).all fun (d : Nat) => decide (letN d ∈ allw)) = true := by decide +kernel
  exact fun d hd => of_decide_eq_true (all_nat h d hd)
theorem dig_is : ∀ n : Nat, n < 512 → Builtin.bitAnd ((n : Int) / 2 ^ (3 : Int).toNat) 7 = ((n / 8 % 8 : Nat) : Int) ∧ Builtin.bitAnd (n : Int) 7 = ((n % 8 : Nat) : Int) ∧ (n : Int) / 2 ^ (6 : Int).toNat = ((n / 64 : Nat) : Int) := by
  have h : ((List.range 512).all fun (n : Nat) => decide (Builtin.bitAnd ((n : Int) / 2 ^ (3 : Int).toNat) 7 = ((n / 8 % 8 : Nat) : Int) ∧ Builtin.bitAnd (n : Int) 7 = ((n % 8 : Nat) : Int) ∧ (n : Int) / 2 ^ (6 : Int).toNat = ((n / 64 : Nat) : Int))) = true := by decide +kernel
  exact fun n hn => of_decide_eq_true (all_nat h n hn)
def spLetters : Sp := fun vs H Q _ => ∃ d : Nat, vs = [.int d] ∧ d < 8 ∧ ∀ H', Ex H H' → Q (.str (letN d)) H'
def spDigits (a : Ads) : Sp := fun vs H Q _ => ∃ (p : Addr) (n : Nat), vs = [.ref p] ∧ ModeAt a H p n ∧ n < 512 ∧ ∀ t H', H t = none → Ex H H' → H' t = some (.tup [.int ((n / 64 : Nat) : Int), .int ((n / 8 % 8 : Nat) : Int), .int ((n % 8 : Nat) : Int)]) → Q (.ref t) H'
/-- the clauses that set a mode -/
def setC (n : Nat) : List Cl := [("u", "=", letN (n / 64)), ("g", "=", letN (n / 8 % 8)), ("o", "=", letN (n % 8))]
theorem setC_ok {n : Nat} (h : n < 512) : ∀ c ∈ setC n, clOk c := by
  have w : ("u" : Str) ∈ allWho ∧ ("g" : Str) ∈ allWho ∧ ("o" : Str) ∈ allWho ∧ ("=" : Str) ∈ allSign := by decide +kernel
  intro c m
  unfold setC at m
  simp only [List.mem_cons, List.not_mem_nil, or_false] at m
  rcases m with rfl | rfl | rfl
  · exact ⟨w.1, w.2.2.2, let_in _ (by omega)⟩
  · exact ⟨w.2.1, w.2.2.2, let_in _ (by omega)⟩
  · exact ⟨w.2.2.1, w.2.2.2, let_in _ (by omega)⟩
def spSetting (K : PySem.W.Frag) (a : Ads) : Sp := fun vs H Q _ => ∃ (v : V) (n : Nat), vs = [v] ∧ n < 512 ∧ AsMode a H v n ∧ ∀ q H', H q = none → Ex H H' → ChangeAt K a H' q (setC n) → Q (.ref q) H'
/-- a new change of three clauses -/
theorem clsat3 {K : PySem.W.Frag} {a : Ads} {H : Hp} {p1 p2 p3 : Addr} {c1 c2 c3 : Cl} (h1 : ClauseAt K a H p1 c1.1 c1.2.1 c1.2.2) (h2 : ClauseAt K a H p2 c2.1 c2.2.1 c2.2.2) (h3 : ClauseAt K a H p3 c3.1 c3.2.1 c3.2.2) : ClsAt K a H [p1, p2, p3] [c1, c2, c3] :=
  ⟨rfl, fun i p c e1 e2 => by
    match i, e1, e2 with
    | 0, e1, e2 => cases e1; cases e2; exact h1
    | 1, e1, e2 => cases e1; cases e2; exact h2
    | 2, e1, e2 => cases e1; cases e2; exact h3
    | n + 3, e1, _ => simp at e1⟩
def spClStr (K : PySem.W.Frag) (a : Ads) : Sp := fun vs H Q _ => ∃ (p : Addr) (c : Cl), vs = [.ref p] ∧ ClauseAt K a H p c.1 c.2.1 c.2.2 ∧ clOk c ∧ ∀ H', Ex H H' → Q (.str (clText c)) H'
def spChStr (K : PySem.W.Frag) (a : Ads) : Sp := fun vs H Q _ => ∃ (p : Addr) (cs : List Cl), vs = [.ref p] ∧ ChangeAt K a H p cs ∧ (∀ c ∈ cs, clOk c) ∧ cs.length ≤ 8 ∧ ∀ H', Ex H H' → Q (.str (Txt.join "," (cs.map clText))) H'
/-- a new change -/
def EvCh (K : PySem.W.Frag) (a : Ads) (te : TE) (σ : L2.St) (H : Hp) (cs : List Cl) : Prop := ∀ H1, Ex H H1 → ∀ Q : VK, (∀ p H2, H1 p = none → Ex H1 H2 → ChangeAt K a H2 p cs → Q (.ref p) H2) → te σ H1 Q
abbrev spCR (K : PySem.W.Frag) (a : Ads) : Sp := fun vs H Q E => ∃ v rest, vs = v :: rest ∧ rest.length ≤ 5 ∧ ∀ p, H p = none → spCInit K a [v, .ref p] (upd H p (.tup rest)) Q E
section
variable {K : PySem.W.Frag} {a : Ads} {σ : L2.St} {H H' : Hp} {te t1 t2 t3 : TE} {E : XK}
theorem eu_digits {n : Nat} (h : EvM a te σ H n) (hn : n < 512) : EvU (tProp a.f_Mode (spDigits a) [] E te) σ H [.int ((n / 64 : Nat) : Int), .int ((n / 8 % 8 : Nat) : Int), .int ((n % 8 : Nat) : Int)] := fun H1 e Q q =>
  h H1 e _ fun m H2 _ e2 hm => by
    obtain ⟨dx, hom⟩ := id hm
    exact ⟨m, dx, _, rfl, hom, m, n, rfl, hm, hn, fun t H3 ht e3 h3 => q t H3 (fresh_back e2 ht) (e2.trans e3) h3⟩
theorem ech_make3 {c1 c2 c3 : Cl} (h1 : EvC K a t1 σ H c1.1 c1.2.1 c1.2.2) (h2 : EvC K a t2 σ H c2.1 c2.2.1 c2.2.2) (h3 : EvC K a t3 σ H c3.1 c3.2.1 c3.2.2) (ok : ∀ c ∈ [c1, c2, c3], clOk c) :
    EvCh K a (StX.tMakeR a.f_Change (spCR K a) E (tCons t1 (tCons t2 (tCons t3 tNil)))) σ H [c1, c2, c3] := fun H1 e1 Q q =>
  h1 H1 e1 _ fun p1 H3 _ e3 m1 => h2 H3 (e1.trans e3) _ fun p2 H4 _ e4 m2 => h3 H4 ((e1.trans e3).trans e4) _ fun p3 H5 _ e5 m3 => by
    have cls : ClsAt K a H5 [p1, p2, p3] [c1, c2, c3] := clsat3 ((m1.mono e4).mono e5) (m2.mono e5) m3
    intro x dx hx hdx hne
    refine ⟨.ref x, [.ref p1, .ref p2, .ref p3], rfl, by show 3 ≤ 5; decide, fun ct hct => ?_⟩
    have eN : Ex H5 (upd (upd (upd H5 dx (.own x)) x (.ins a.f_Change dx [])) ct (.tup [.ref p1, .ref p2, .ref p3])) := fun b o hb => by
      have bx := ne_of_none hb hx
      have bd := ne_of_none hb hdx
      have bc : b ≠ ct := fun z => by
        rw [z] at bx bd hb
        rw [upd_ne bx, upd_ne bd, hb] at hct
        cases hct
      rw [upd_ne bc, upd_ne bx, upd_ne bd]
      exact hb
    have xct : x ≠ ct := fun z => by rw [← z, upd_same] at hct; cases hct
    have e05 : Ex H1 H5 := (e3.trans e4).trans e5
    exact ⟨x, dx, ct, [p1, p2, p3], [c1, c2, c3], rfl, upd_same, cls.mono eN, ok, by show 0 < 3; decide, by show 3 ≤ 8; decide, by rw [upd_ne xct, upd_same], fun H9 b9 ch => ⟨rfl, q x H9 (fresh_back e05 hx) (e05.trans fun b o hb => b9 b o (eN b o hb) (ne_of_none hb hx)) ch⟩⟩
end
section
variable {P : Program} {w : World} {K : PySem.W.Frag} {mg : Str → Option Value} {base : Heap} {a : Ads}
theorem ok_letters_of (T : Txt w K mg a) : FnOk P w K mg base CX0 1 a.f_letters_of a.d_letters_of ["digit"] spLetters := by
  obtain ⟨es, n, D, ⟨t4, hr_⟩, ⟨t2, hw_⟩, ⟨t1, hx_⟩⟩ := T.d_WEIGHTS
  refine T.fn_letters_of.ok sc_letters_of (fun vs H Q E h => ?_) (fun cdv A outer s H vs Q E hr h => ?_)
  · obtain ⟨_, rfl, _⟩ := h
    rfl
  · obtain ⟨d, rfl, hd, k⟩ := h
    refine ⟨_, (pss_one (ps_ret (pe_join pe_str (pe_lc (own := [("letter", 1)]) (g := gName 1) rfl sc_letters_of.nd (pi_str pe_str) (blkOk_by (own := [("letter", 1)]) (N := n_letters_of) (sc := defScope s_letters_of) (by decide +kernel)) (fun _ _ _ _ _ => (pg_name (i := 1) sc_letters_of.nd rfl (Or.inl rfl))) (fun _ _ _ _ _ => (pts_one (pt_truthE (K := K) (pe_op op_and (pv 0) (pe_ix (r := rIxD K w) ix_kdict (pe_glob (v := .ref a.k_WEIGHTS) rfl T.mg_WEIGHTS rfl) (pv 1) (fun _ _ => rfl))) (by intro _; rfl)))) (fun _ _ _ _ _ => (pv 1)))))), ?_⟩
    have hc : ∀ (i c : Nat), ("rwx" : Str).cps[i]? = some c → ∃ t : Tok, PySem.W.nsIn K a.k_WEIGHTS (⟨#[c]⟩ : Str) = some (some (.int (wlet c : Nat) t)) := fun i c hc => by
      have hm : c ∈ ("rwx" : Str).cps.toList := by rw [← Array.getElem?_toList] at hc; exact List.mem_of_getElem? hc
      have z : ("rwx" : Str).cps.toList = [114, 119, 120] := by decide +kernel
      rw [z] at hm
      simp only [List.mem_cons, List.not_mem_nil, or_false] at hm
      rcases hm with rfl | rfl | rfl
      · exact ⟨t4, by rw [← show ("r" : Str) = ⟨#[114]⟩ by decide +kernel]; exact hr_⟩
      · exact ⟨t2, by rw [← show ("w" : Str) = ⟨#[119]⟩ by decide +kernel]; exact hw_⟩
      · exact ⟨t1, by rw [← show ("x" : Str) = ⟨#[120]⟩ by decide +kernel]; exact hx_⟩
    refine s_ret (v := .str (letN d)) (ev_is (ev_join (ys := (("rwx" : Str).cps.toList.filter fun c => (Builtin.bitAnd (d : Int) (wlet c : Nat) != 0)).map fun c => (⟨#[c]⟩ : Str)) ev_c (el_is (el_lcS (s := "rwx") (fun i => (Builtin.bitAnd (d : Int) (wlet (("rwx" : Str).cps.toList.getD i 0) : Nat) != 0)) (fun i => V.str ⟨#[("rwx" : Str).cps.toList.getD i 0]⟩) ev_c (by decide +kernel) (fun _ => rfl) (fun i c H1 e1 hi => ?_) (fun i c H1 e1 hi _ => ?_)) (given_signs "rwx" fun c => (Builtin.bitAnd (d : Int) (wlet c : Nat) != 0))) ?_) (congrArg V.str (let_is d hd))) fun H1 e1 => k H1 e1
    · obtain ⟨t, ht⟩ := hc i c hi
      refine et_is (et_truth (ev_op (ev_var rfl) (ev_op ev_c (ev_var rfl) (rv_kix (v := .int (wlet c : Nat)) D ht ⟨_, rfl⟩)) rv_I0)) ?_
      rw [← Array.getElem?_toList] at hi
      rw [show ("rwx" : Str).cps.toList.getD i 0 = c by simp [List.getD, hi]]
    · rw [← Array.getElem?_toList] at hi
      exact ev_is (ev_var rfl) (by rw [show ("rwx" : Str).cps.toList.getD i 0 = c by simp [List.getD, hi]])
    · have l := List.length_filter_le (fun c => (Builtin.bitAnd (d : Int) (wlet c : Nat) != 0)) ("rwx" : Str).cps.toList
      rw [ones_sum, List.length_map, show ("" : Str).length = 0 from rfl, Nat.mul_zero]
      have z : ("rwx" : Str).cps.toList.length = 3 := by decide +kernel
      omega
theorem ok_digits (T : Txt w K mg a) : FnOk P w K mg base CX0 1 a.f_Mode_digits a.d_Mode_digits ["self"] (spDigits a) := by
  refine T.fn_Mode_digits.ok sc_Mode_digits (fun vs H Q E h => ?_) (fun cdv A outer s H vs Q E hr h => ?_)
  · obtain ⟨_, _, rfl, _⟩ := h
    rfl
  · obtain ⟨p, n, rfl, ⟨dx, hp⟩, hn, k⟩ := h
    refine ⟨_, (pss_one (ps_ret (pe_tup (pa_cons (pe_op op_shr (pe_fld (pv 0) rfl) pe_int) (pa_cons (pe_op op_and (pe_op op_shr (pe_fld (pv 0) rfl) pe_int) pe_int) (pa_cons (pe_op op_and (pe_fld (pv 0) rfl) pe_int) pa_nil)))))), ?_⟩
    obtain ⟨d1, d2, d3⟩ := dig_is n hn
    have num : ∀ H1, Ex H H1 → Ev (tFld K (tVar 0) "_number") [some (.ref p)] H1 (.int n) := fun H1 e => ev_fld (ev_var rfl) (e _ _ hp) T.c_Mode T.n_number_Mode (by simp [List.lookup])
    refine s_retU (xs := [.int ((n / 64 : Nat) : Int), .int ((n / 8 % 8 : Nat) : Int), .int ((n % 8 : Nat) : Int)]) (eu_tup (ea_cons (ev_is (ev_op (num _ (Ex.refl H)) ev_c (rv_I (by decide))) (congrArg V.int d3)) (ea_cons (ev_is (ev_op (ev_op (num _ (Ex.refl H)) ev_c (rv_I (by decide))) ev_c rv_I0) (congrArg V.int d1)) (ea_cons (ev_is (ev_op (num _ (Ex.refl H)) ev_c rv_I0) (congrArg V.int d2)) ea_nil))) (by show 3 ≤ 100000; decide)) fun t H1 ht e1 h1 => k t H1 ht e1 h1
theorem ok_setting (T : Txt w K mg a) : FnOk P w K mg base CX0 7 a.f_Change_setting a.d_Change_setting ["mode"] (spSetting K a) := by
  have G_Mode_init : FnOk P w K mg base CX0 5 _ _ _ _ := ok_Mode_init T
  have G_Clause_init : FnOk P w K mg base CX0 5 _ _ _ _ := ok_Clause_init T
  have G_Change_init : FnR P w K mg base CX0 5 _ _ := (ok_Change_init T).mono (by decide)
  have G_number_of : FnOk P w K mg base CX0 5 _ _ _ _ := ok_number_of T
  have G_letters_of : FnOk P w K mg base CX0 5 _ _ _ _ := (ok_letters_of T).mono (by decide)
  have G_Mode_digits : FnOk P w K mg base CX0 5 _ _ _ _ := (ok_digits T).mono (by decide)
  refine T.fn_Change_setting.ok sc_Change_setting (fun vs H Q E h => ?_) (fun cdv A outer s H vs Q E hr h => ?_)
  · obtain ⟨_, _, rfl, _⟩ := h
    rfl
  · obtain ⟨v, n, rfl, hn, hv, k⟩ := h
    have hrm : Room (5 + 1) _ := hr
    have hrc : Room 5 _ := hr.mono (by decide)
    refine ⟨_, (pss_cons (ps_asg (pe_prop (pe_make T.mk_Mode G_Mode_init hrm rfl T.mg_Mode (bd_ModeD_initD T) .nil pass0 (pa_cons (pe_call G_number_of hrc rfl T.mg_number_of T.fn_number_of.kp (bd_number_of T) .nil pass0 (pa_cons (pv 0) pa_nil)) pa_nil)) T.c_Mode T.p_Mode_digits (G_Mode_digits) hrm (bd_Mode_digits T) .nil pass0 rfl) (pg_tup rfl (pgs_cons (pg_name (i := 1) sc_Change_setting.nd rfl (Or.inl rfl)) (pgs_cons (pg_name (i := 2) sc_Change_setting.nd rfl (Or.inl rfl)) (pgs_cons (pg_name (i := 3) sc_Change_setting.nd rfl (Or.inl rfl)) pgs_nil)))))
    (pss_one (ps_ret (StX.pe_makeR T.mk_Change G_Change_init hrm rfl T.mg_Change pass0 (pa_cons (pe_make T.mk_Clause G_Clause_init hrm rfl T.mg_Clause (bd_ClauseD_initD T) .nil pass0 (pa_cons pe_str (pa_cons pe_str (pa_cons (pe_call G_letters_of hrc rfl T.mg_letters_of T.fn_letters_of.kp (bd_letters_of T) .nil pass0 (pa_cons (pv 1) pa_nil)) pa_nil)))) (pa_cons (pe_make T.mk_Clause G_Clause_init hrm rfl T.mg_Clause (bd_ClauseD_initD T) .nil pass0 (pa_cons pe_str (pa_cons pe_str (pa_cons (pe_call G_letters_of hrc rfl T.mg_letters_of T.fn_letters_of.kp (bd_letters_of T) .nil pass0 (pa_cons (pv 2) pa_nil)) pa_nil)))) (pa_cons (pe_make T.mk_Clause G_Clause_init hrm rfl T.mg_Clause (bd_ClauseD_initD T) .nil pass0 (pa_cons pe_str (pa_cons pe_str (pa_cons (pe_call G_letters_of hrc rfl T.mg_letters_of T.fn_letters_of.kp (bd_letters_of T) .nil pass0 (pa_cons (pv 3) pa_nil)) pa_nil)))) pa_nil))))))), ?_⟩
    have num : ∀ (E : XK), Ev (tCall (spNum a) [] E (tCons (tVar 0) tNil)) [some v, none, none, none] H (.int n) := fun E => ev_call (vs := [v]) (ea_cons (ev_var rfl) ea_nil) fun H1 e1 Q1 q1 E1 => ⟨v, n, rfl, hn, by
      rcases hv with rfl | ⟨q, rfl, m⟩
      · exact .inl rfl
      · exact .inr ⟨q, rfl, m.mono e1⟩, q1⟩
    refine q_asgT (K := K) (eu_digits (em_mode (a := a) (n := n) (num _) hn) hn) rfl fun t H2 _ e2 ht => ?_
    refine ⟨_, _, rfl, _, _, rfl, _, _, rfl, rfl, ?_⟩
    have lt : ∀ (i d : Nat) (σ : L2.St) (H3 : Hp) (E : XK), d < 8 → σ[i]? = some (some (.int (d : Nat))) → Ev (tCall spLetters [] E (tCons (tVar i) tNil)) σ H3 (.str (letN d)) := fun i d σ H3 E hd hs => ev_call (vs := [.int (d : Nat)]) (ea_cons (ev_var hs) ea_nil) fun H4 e4 Q4 q4 E4 => ⟨d, rfl, hd, q4⟩
    have ww : ("u" : Str) ∈ allWho ∧ ("g" : Str) ∈ allWho ∧ ("o" : Str) ∈ allWho ∧ ("=" : Str) ∈ allSign := by decide +kernel
    exact ech_make3 (K := K) (a := a) (c1 := ("u", "=", letN (n / 64))) (c2 := ("g", "=", letN (n / 8 % 8))) (c3 := ("o", "=", letN (n % 8)))
      (ec_make (ea_cons ev_c (ea_cons ev_c (ea_cons (lt _ _ _ _ _ (by omega) rfl) ea_nil))) ww.1 ww.2.2.2 (let_in _ (by omega)))
      (ec_make (ea_cons ev_c (ea_cons ev_c (ea_cons (lt _ _ _ _ _ (by omega) rfl) ea_nil))) ww.2.1 ww.2.2.2 (let_in _ (by omega)))
      (ec_make (ea_cons ev_c (ea_cons ev_c (ea_cons (lt _ _ _ _ _ (by omega) rfl) ea_nil))) ww.2.2.1 ww.2.2.2 (let_in _ (by omega))) (setC_ok hn) H2 (Ex.refl H2) _ fun q H3 hq e3 ch => k q H3 (fresh_back e2 hq) (e2.trans e3) ch
end
end KX
set_option Elab.async false
set_option linter.all false
set_option maxRecDepth 100000
set_option maxHeartbeats 4000000
namespace KX
open PySem PySem.Spec PyProof.Rows L2 Evl
local macro_rules | `(tactic| walk_at "ev") => `(tactic| repeat' (first | exact ev_c | exact ev_var rfl | exact rv_I0 | refine' rv_I ?_ | refine' rv_eq ?_ | refine' rv_ne ?_ | refine' ev_op ?_ ?_ ?_ | exact ea_nil | refine' ea_cons ?_ ?_ | refine' et_test ?_ | refine' et_B ?_ | refine' et_not ?_ | refine' ev_notV ?_))

open PySem
theorem ev_joined3 {t1 t2 t3 : TE} {σ : L2.St} {H : Hp} {x y z : Str} (h1 : Ev t1 σ H (.str x)) (h2 : Ev t2 σ H (.str y)) (h3 : Ev t3 σ H (.str z)) (l : x.length + y.length + z.length ≤ 100000) :
    Ev (fun σ H Q => tJs [tFmt t1, tFmt t2, tFmt t3] Str.empty σ H fun out H1 => Q (.str out) H1) σ H (.str (Str.empty ++ x ++ y ++ z)) := fun H0 e Q q => by
  have l0 : (Str.empty ++ x).length = x.length := by show (Str.empty.cps ++ x.cps).size = _; rw [Array.size_append]; show 0 + x.cps.size = x.cps.size; omega
  have l1 : (Str.empty ++ x ++ y).length = x.length + y.length := by show ((Str.empty ++ x).cps ++ y.cps).size = _; rw [Array.size_append]; show (Str.empty ++ x).length + y.length = _; omega
  have l2 : (Str.empty ++ x ++ y ++ z).length = x.length + y.length + z.length := by show ((Str.empty ++ x ++ y).cps ++ z.cps).size = _; rw [Array.size_append]; show (Str.empty ++ x ++ y).length + z.length = _; omega
  exact h1 H0 e _ fun H2 e2 => .inl ⟨x, rfl, sz_of (by omega), x, rfl, by rw [l0]; exact sz_of (by omega), h2 H2 (e.trans e2) _ fun H3 e3 => .inl ⟨y, rfl, sz_of (by omega), y, rfl, by rw [l1]; exact sz_of (by omega), h3 H3 ((e.trans e2).trans e3) _ fun H4 e4 => .inl ⟨z, rfl, sz_of (by omega), z, rfl, by rw [l2]; exact sz_of (by omega), q H4 ((e2.trans e3).trans e4)⟩⟩⟩
theorem cl_joined (c : Cl) : Str.empty ++ (who0N c) ++ c.2.1 ++ c.2.2 = clText c := by
  have e : ∀ s : Str, Str.empty ++ s = s := fun s => by
    show (⟨#[] ++ s.cps⟩ : Str) = s
    rw [Array.empty_append]
  rw [e]
  rfl
/-- two clauses, two changes, with the same parts -/
def SameC (K : PySem.W.Frag) (a : Ads) (p q : Addr) (H : Hp) : Prop := ∃ c : Cl, ClauseAt K a H p c.1 c.2.1 c.2.2 ∧ ClauseAt K a H q c.1 c.2.1 c.2.2
def SameCh (K : PySem.W.Frag) (a : Ads) (p q : Addr) (H : Hp) : Prop := ∃ cs : List Cl, ChangeAt K a H p cs ∧ ChangeAt K a H q cs
theorem sameC_mono {K : PySem.W.Frag} {a : Ads} {p q : Addr} {H H' : Hp} (e : Ext H H') (h : SameC K a p q H) : SameC K a p q H' := by
  obtain ⟨c, h1, h2⟩ := h
  exact ⟨c, h1.mono e, h2.mono e⟩
theorem sameCh_mono {K : PySem.W.Frag} {a : Ads} {p q : Addr} {H H' : Hp} (e : Ext H H') (h : SameCh K a p q H) : SameCh K a p q H' := by
  obtain ⟨c, h1, h2⟩ := h
  exact ⟨c, h1.mono e, h2.mono e⟩
theorem rv_eqG {D : Eqv} {x y : V} {H : Hp} (hD : Mon D) (h : D x y H) : RV (rEqG D) x y H (.bl true) := fun H1 e Q q => ⟨hD x y H H1 e h, fun H2 e2 => q H2 e2⟩
theorem chf_clauses (ct tt : Addr) : (putF "_tables" (V.ref tt) (putF "_clauses" (V.ref ct) [])).lookup ("_clauses" : Str) = some (.ref ct) := by
  rw [lookup_putF, if_neg (by decide +kernel), lookup_putF, if_pos rfl]
theorem ev_strOwn {C : Addr} {sp : Sp} {E : XK} {te : TE} {σ : L2.St} {H : Hp} {p dx : Addr} {fs : List (Str × V)} {s : Str} (h : Ev te σ H (.ref p)) (ho : H p = some (.ins C dx fs)) (hs : SpV sp [.ref p] H (.str s)) : Ev (tCB (rStrOwn C sp E) (tCons te tNil)) σ H (.str s) := fun H1 e Q q =>
  h H1 e _ fun H2 e2 => ⟨p, dx, fs, rfl, e2 _ _ (e _ _ ho), hs H2 (e.trans e2) _ (fun H3 e3 => ⟨s, rfl, q H3 (e2.trans e3)⟩) E⟩
section
variable {P : Program} {w : World} {K : PySem.W.Frag} {mg : Str → Option Value} {base : Heap} {a : Ads}
theorem ok_Clause_str (T : Txt w K mg a) : FnOk P w K mg base CX0 1 a.f_ClauseD_strD a.d_ClauseD_strD ["self"] (spClStr K a) := by
  refine T.fn_ClauseD_strD.ok sc_ClauseD_strD (fun vs H Q E h => ?_) (fun cdv A outer s H vs Q E hr h => ?_)
  · obtain ⟨_, _, rfl, _⟩ := h
    rfl
  · obtain ⟨p, c, rfl, cl, ok, k⟩ := h
    refine ⟨_, (pss_cons (ps_set (i := 1) sc_ClauseD_strD.nd rfl (Or.inl rfl) (pe_ifExp (pt_cmpR op_eq (pe_fld (pv 0) rfl) pe_str (nomark _)) pe_str (pe_fld (pv 0) rfl)))
    (pss_one (ps_ret (pe_joined (PJ.cons (pe_fmt (pv 1)) (PJ.cons (pe_fmt (pe_fld (pv 0) rfl)) (PJ.cons (pe_fmt (pe_fld (pv 0) rfl)) PJ.nil))))))), ?_⟩
    obtain ⟨dx, t, ho, _⟩ := cl.ob
    have l1 := short.1 _ (who0_in ok.1)
    have l2 := short.2.1 _ ok.2.1
    have l3 := short.2.2 _ ok.2.2
    refine q_asg (v := .str (who0N c)) (ev_if (b := decide (V.str c.1 = V.str "ugo")) (et_test (ev_op (ev_fld (ev_var rfl) ho T.c_Clause T.n_who_Clause (fs_who _ _ _ t)) ev_c (rv_eq rfl))) (fun hb => ev_is ev_c (by unfold who0N; rw [if_pos (V.str.inj (of_decide_eq_true hb))])) (fun hb => ev_is (ev_fld (ev_var rfl) ho T.c_Clause T.n_who_Clause (fs_who _ _ _ t)) (by unfold who0N; rw [if_neg (fun z => of_decide_eq_false hb (congrArg V.str z))]))) fun H1 e1 => ?_
    exact s_ret (v := .str (clText c)) (ev_is (ev_joined3 (ev_var rfl) (ev_fld (ev_var rfl) (e1 _ _ ho) T.c_Clause T.n_sign_Clause (fs_sign _ _ _ t)) (ev_fld (ev_var rfl) (e1 _ _ ho) T.c_Clause T.n_what_Clause (fs_what _ _ _ t)) (by omega)) (congrArg V.str (cl_joined c))) fun H2 e2 => k H2 (e1.trans e2)
theorem ok_Change_str (T : Txt w K mg a) : FnOk P w K mg base CX0 4 a.f_ChangeD_strD a.d_ChangeD_strD ["self"] (spChStr K a) := by
  have G_ClauseD_strD : FnOk P w K mg base CX0 1 _ _ _ _ := ok_Clause_str T
  refine T.fn_ChangeD_strD.ok sc_ChangeD_strD (fun vs H Q E h => ?_) (fun cdv A outer s H vs Q E hr h => ?_)
  · obtain ⟨_, _, rfl, _⟩ := h
    rfl
  · obtain ⟨p, cs, rfl, ⟨dx, ct, tt, ps, ho, seq, cls, tab⟩, ok, hl, k⟩ := h
    have hrs : Room (1 + 2) _ := hr.mono (by decide)
    refine ⟨_, (pss_one (ps_ret (pe_join pe_str (pe_lc (own := [("clause", 1)]) (g := gName 1) rfl sc_ChangeD_strD.nd (pi_tupE (K := K) (pe_fldE (K := K) (pv 0) rfl)) (blkOk_by (own := [("clause", 1)]) (N := n_ChangeD_strD) (sc := defScope s_ChangeD_strD) (by decide +kernel)) (fun _ _ _ _ _ => (pg_name (i := 1) sc_ChangeD_strD.nd rfl (Or.inl rfl))) (fun _ _ _ _ _ => pts_nil) (fun _ _ _ _ _ => (pe_callTy (call_strOwn T.m_ClauseD_strD.at_ T.m_ClauseD_strD.fn (G_ClauseD_strD.raw (bd_ClauseD_strD T) .nil) hrs pass0) (by rfl) T.b_str (by decide +kernel) (pa_cons (pv 1) pa_nil))))))), ?_⟩
    have sum : ∀ ds : List Cl, (∀ c ∈ ds, clOk c) → ((ds.map clText).map (·.length)).sum ≤ ds.length * 100 := by
      intro ds
      induction ds with
      | nil => intro _; exact Nat.le_refl 0
      | cons c ds ih =>
        intro h
        have := ih fun d m => h d (List.mem_cons_of_mem _ m)
        have := clText_len (h c (List.mem_cons_self ..))
        simp only [List.map_cons, List.sum_cons, List.length_cons]
        omega
    refine s_ret (v := .str (Txt.join "," (cs.map clText))) (ev_join (ys := cs.map clText) ev_c (el_is (el_lcT (K := K) (xs := ps.map V.ref) (σ' := fun x => [some (.ref p), some x]) (fun _ => true) (fun i => V.str (((cs.map clText)[i]?).getD "")) (ev_fld (ev_var rfl) ho T.c_Change T.n_clauses_Change (chf_clauses ct tt)) seq (by rw [List.length_map, cls.1]; omega) (fun i x H1 Q' e1 hi q => q) (fun _ => rfl) (fun _ _ _ _ _ => et_yes) (fun i x H1 e1 hx _ => ?_)) ?_) ?_) fun H1 e1 => k H1 e1
    · rw [List.getElem?_map] at hx
      obtain ⟨q, hq, rfl⟩ := Option.map_eq_some_iff.mp hx
      have hi : i < cs.length := by rw [← cls.1]; exact (List.getElem?_eq_some_iff.mp hq).1
      have hci : cs[i]? = some cs[i] := by simp [hi]
      have cl := (cls.2 i q cs[i] hq hci).mono e1
      obtain ⟨dq, tq, hoq, _⟩ := id cl.ob
      refine ev_is (ev_strOwn (s := clText cs[i]) (ev_var rfl) hoq fun H2 e2 Q2 q2 E2 => ⟨q, cs[i], rfl, cl.mono e2, ok _ (List.mem_of_getElem? hci), q2⟩) ?_
      rw [List.getElem?_map, hci]
      rfl
    · rw [given_all, List.length_map, cls.1]
      apply List.ext_getElem
      · simp
      · intro i a1 a2
        simp at a1 a2 ⊢
        simp [a1]
    · have := sum cs ok
      rw [List.length_map, show ("," : Str).length = 1 by decide +kernel]
      omega
theorem tyx_change (T : Txt w K mg a) {H : Hp} {p : Addr} {cs : List Cl} (m : ChangeAt K a H p cs) : TyX K H (.ref p) (.ref a.f_Change) := by
  obtain ⟨dx, ct, tt, ps, h, _⟩ := m
  exact .base (.ins h T.c_Change T.ia_Change T.in_ T.it_ T.im_Change)
theorem ok_Clause_eq (T : Txt w K mg a) : FnOk P w K mg base CX0 1 a.f_ClauseD_eqD a.d_ClauseD_eqD ["self", "other"] (spEq (SameC K a)) := by
  refine T.fn_ClauseD_eqD.ok sc_ClauseD_eqD (fun vs H Q E h => ?_) (fun cdv A outer s H vs Q E hr h => ?_)
  · obtain ⟨_, _, rfl, _⟩ := h
    rfl
  · obtain ⟨p, q, rfl, ⟨c, m1, m2⟩, k⟩ := h
    refine ⟨_, (pss_one (ps_ret (pe_and (pe_callB call_isi (by rfl) T.b_isinstance PyProof.Rows.boot_isinstance (pa_cons (pv 1) (pa_cons (pe_glob (v := .ref a.f_Clause) rfl T.mg_Clause rfl) pa_nil))) (pe_and (pe_cmpR op_eq (pe_fld (pv 0) rfl) (pe_fld (pv 1) rfl) (nomark _)) (pe_and (pe_cmpR op_eq (pe_fld (pv 0) rfl) (pe_fld (pv 1) rfl) (nomark _)) (pe_one (pe_cmpR op_eq (pe_fld (pv 0) rfl) (pe_fld (pv 1) rfl) (nomark _)))))))), ?_⟩
    obtain ⟨dx, t, ho, _⟩ := m1.ob
    obtain ⟨dy, u, hq, _⟩ := id m2.ob
    exact s_ret (v := .bl true) (ev_is (ev_andV (a := true) (ev_isi (ea_cons (ev_var rfl) (ea_cons ev_c ea_nil)) (.own _) (fun H' e' => tyx_clause T (m2.mono e')) T.is_Clause) fun _ => ev_andV (ev_op (ev_fld (ev_var rfl) ho T.c_Clause T.n_who_Clause (fs_who _ _ _ t)) (ev_fld (ev_var rfl) hq T.c_Clause T.n_who_Clause (fs_who _ _ _ u)) (rv_eq rfl)) fun _ => ev_andV (ev_op (ev_fld (ev_var rfl) ho T.c_Clause T.n_sign_Clause (fs_sign _ _ _ t)) (ev_fld (ev_var rfl) hq T.c_Clause T.n_sign_Clause (fs_sign _ _ _ u)) (rv_eq rfl)) fun _ => ev_op (ev_fld (ev_var rfl) ho T.c_Clause T.n_what_Clause (fs_what _ _ _ t)) (ev_fld (ev_var rfl) hq T.c_Clause T.n_what_Clause (fs_what _ _ _ u)) (rv_eq rfl)) (by simp)) fun H1 e1 => k H1 e1
theorem ok_Change_eq (T : Txt w K mg a) : FnOk P w K mg base CX0 4 a.f_ChangeD_eqD a.d_ChangeD_eqD ["self", "other"] (spEq (SameCh K a)) := by
  have G : FnOk P w K mg base CX0 1 _ _ _ _ := ok_Clause_eq T
  refine T.fn_ChangeD_eqD.ok sc_ChangeD_eqD (fun vs H Q E h => ?_) (fun cdv A outer s H vs Q E hr h => ?_)
  · obtain ⟨_, _, rfl, _⟩ := h
    rfl
  · obtain ⟨p, q, rfl, ⟨cs, m1, m2⟩, k⟩ := h
    refine ⟨_, (pss_one (ps_ret (pe_and (pe_callB call_isi (by rfl) T.b_isinstance PyProof.Rows.boot_isinstance (pa_cons (pv 1) (pa_cons (pe_glob (v := .ref a.f_Change) rfl T.mg_Change rfl) pa_nil))) (pe_one (pe_cmpR (op_eqG (rcG_tup (n := 1) (mon_ins (R := SameC K a) fun _ _ _ _ e h => sameC_mono e h) (eqG_ins (R := SameC K a) G T.m_ClauseD_eqD.at_ T.m_ClauseD_eqD.fn (bd_ClauseD_eqD T) pass0)) (hr.mono (by decide))) (pe_fld (pv 0) rfl) (pe_fld (pv 1) rfl) (nomark _)))))), ?_⟩
    obtain ⟨dx, ct, tt, ps, ho, seq, cls, _⟩ := m1
    obtain ⟨dy, cu, tu, qs, hq, seq2, cls2, _⟩ := id m2
    have prs : Prs (DIns a.f_Clause (SameC K a)) (ps.map V.ref) (qs.map V.ref) H := ⟨by rw [List.length_map, List.length_map, cls.1, cls2.1], fun i x y hx hy => by
      rw [List.getElem?_map] at hx hy
      obtain ⟨b, hb, rfl⟩ := Option.map_eq_some_iff.mp hx
      obtain ⟨d, hd, rfl⟩ := Option.map_eq_some_iff.mp hy
      have hi : i < cs.length := by rw [← cls.1]; exact (List.getElem?_eq_some_iff.mp hb).1
      have c1 := cls.2 i b cs[i] hb (by simp [hi])
      have c2 := cls2.2 i d cs[i] hd (by simp [hi])
      obtain ⟨d1, t1, o1, _⟩ := id c1.ob
      obtain ⟨d2, t2, o2, _⟩ := id c2.ob
      exact ⟨b, d, d1, d2, _, _, rfl, rfl, o1, o2, cs[i], c1, c2⟩⟩
    exact s_ret (v := .bl true) (ev_is (ev_andV (a := true) (ev_isi (ea_cons (ev_var rfl) (ea_cons ev_c ea_nil)) (.own _) (fun H' e' => tyx_change T (m2.mono e')) T.is_Change) fun _ => ev_op (ev_fld (ev_var rfl) ho T.c_Change T.n_clauses_Change (chf_clauses ct tt)) (ev_fld (ev_var rfl) hq T.c_Change T.n_clauses_Change (chf_clauses cu tu)) (rv_eqG (mon_tup (mon_ins (R := SameC K a) fun _ _ _ _ e h => sameC_mono e h)) ⟨ct, cu, _, _, rfl, rfl, seq, seq2, prs⟩)) (by simp)) fun H1 e1 => k H1 e1
end
end KX
set_option Elab.async false
set_option linter.all false
set_option maxRecDepth 100000
set_option maxHeartbeats 4000000
namespace KX
open PySem PySem.Spec PyProof.Rows L2 Evl
local macro_rules | `(tactic| walk_at "ev") => `(tactic| repeat' (first | exact ev_c | exact ev_var rfl | exact rv_I0 | refine' rv_I ?_ | refine' rv_eq ?_ | refine' rv_ne ?_ | refine' ev_op ?_ ?_ ?_ | exact ea_nil | refine' ea_cons ?_ ?_ | refine' et_test ?_ | refine' et_B ?_ | refine' et_not ?_ | refine' ev_notV ?_))

open PySem
/-! ### rounds of a change -/
def itN (f : Nat → Nat) : Nat → Nat → Nat
  | 0, p => p
  | k + 1, p => f (itN f k p)
def itD (cs : List Cl) (form : Str) : Nat → Nat → Nat
  | 0, n => n
  | k + 1, n => foldN cs (itD cs form k n) form
def rowL (f : Nat → Nat) : List Nat := (List.range 8).map f
def RowsAt (cs : List Cl) (form : Str) (k : Nat) : NRow := [rowL (itN (foldT cs 0) k), rowL (itN (foldT cs 1) k), rowL (itN (foldT cs (xK form)) k)]
def uni (p : Nat) : Nat := 448 * (p / 4) + 56 * (p / 2 % 2) + 7 * (p % 2)
def MdAt (cs : List Cl) (form : Str) (k : Nat) : List Nat := (List.range 8).map fun p => itD cs form k (uni p)
theorem uni_is : ∀ p : Nat, p < 8 → uni p < 512 ∧ patN (uni p) 4 = p ∧ patN (uni p) 2 = p ∧ patN (uni p) 1 = p := by
  have h : ((List.range 8).all fun (p : Nat) => decide (uni p < 512 ∧ patN (uni p) 4 = p ∧ patN (uni p) 2 = p ∧ patN (uni p) 1 = p)) = true := by decide +kernel
  exact fun p hp => of_decide_eq_true (all_nat h p hp)
theorem itN_low {f : Nat → Nat} (l : Low f) : ∀ k, Low (itN f k)
  | 0 => fun p h => h
  | k + 1 => fun p h => l _ (itN_low l k p h)
theorem itN_add (f : Nat → Nat) (a : Nat) : ∀ b p, itN f (a + b) p = itN f b (itN f a p)
  | 0, p => rfl
  | b + 1, p => by
    show f (itN f (a + b) p) = f (itN f b (itN f a p))
    rw [itN_add f a b p]
theorem itD_lt {cs : List Cl} {form : Str} : ∀ (k : Nat) {n : Nat}, n < 512 → itD cs form k n < 512
  | 0, _, h => h
  | k + 1, _, h => fold_lt cs (itD_lt k h)
theorem itD_pat {cs : List Cl} {form : Str} (ok : ∀ c ∈ cs, clOk c) (hf : form ∈ forms) : ∀ (k : Nat) {n : Nat}, n < 512 → patN (itD cs form k n) 4 = itN (foldT cs 0) k (patN n 4) ∧ patN (itD cs form k n) 2 = itN (foldT cs 1) k (patN n 2) ∧ patN (itD cs form k n) 1 = itN (foldT cs (xK form)) k (patN n 1)
  | 0, _, _ => ⟨rfl, rfl, rfl⟩
  | k + 1, n, h => by
    obtain ⟨h4, h2, h1⟩ := itD_pat ok hf k h
    obtain ⟨f4, f2, f1⟩ := pat_fold cs (n := itD cs form k n) (form := form) ok hf (itD_lt k h)
    show patN (foldN cs (itD cs form k n) form) 4 = foldT cs 0 (itN (foldT cs 0) k (patN n 4)) ∧ patN (foldN cs (itD cs form k n) form) 2 = foldT cs 1 (itN (foldT cs 1) k (patN n 2)) ∧ patN (foldN cs (itD cs form k n) form) 1 = foldT cs (xK form) (itN (foldT cs (xK form)) k (patN n 1))
    rw [f4, f2, f1, h4, h2, h1]
    exact ⟨rfl, rfl, rfl⟩
theorem map_range_eq {α : Type} {f g : Nat → α} : (List.range 8).map f = (List.range 8).map g ↔ ∀ p, p < 8 → f p = g p := by
  constructor
  · intro h p hp
    have := congrArg (fun l => l[p]?) h
    simp only [List.getElem?_map, List.getElem?_range hp, Option.map_some] at this
    exact Option.some.inj this
  · intro h
    apply List.map_congr_left
    intro p hp
    exact h p (List.mem_range.mp hp)
theorem rows_eq {cs : List Cl} {form : Str} {i j : Nat} : RowsAt cs form i = RowsAt cs form j ↔ ∀ p, p < 8 → itN (foldT cs 0) i p = itN (foldT cs 0) j p ∧ itN (foldT cs 1) i p = itN (foldT cs 1) j p ∧ itN (foldT cs (xK form)) i p = itN (foldT cs (xK form)) j p := by
  unfold RowsAt
  simp only [List.cons.injEq, and_true]
  unfold rowL
  rw [map_range_eq, map_range_eq, map_range_eq]
  exact ⟨fun ⟨a, b, c⟩ p h => ⟨a p h, b p h, c p h⟩, fun h => ⟨fun p q => (h p q).1, fun p q => (h p q).2.1, fun p q => (h p q).2.2⟩⟩
theorem same_modes {cs : List Cl} {form : Str} (ok : ∀ c ∈ cs, clOk c) (hf : form ∈ forms) {i j n : Nat} (hn : n < 512) (h : RowsAt cs form i = RowsAt cs form j) : itD cs form i n = itD cs form j n := by
  have h := rows_eq.mp h
  obtain ⟨a4, a2, a1⟩ := itD_pat ok hf i hn
  obtain ⟨b4, b2, b1⟩ := itD_pat ok hf j hn
  rw [← parts_are _ (itD_lt (cs := cs) (form := form) i hn), ← parts_are _ (itD_lt (cs := cs) (form := form) j hn), a4, a2, a1, b4, b2, b1, (h _ (pat_lt 4 (by decide) n hn)).1, (h _ (pat_lt 2 (by decide) n hn)).2.1, (h _ (pat_lt 1 (by decide) n hn)).2.2]
theorem md_rows {cs : List Cl} {form : Str} (ok : ∀ c ∈ cs, clOk c) (hf : form ∈ forms) (i j : Nat) : RowsAt cs form i = RowsAt cs form j ↔ MdAt cs form i = MdAt cs form j := by
  constructor
  · intro h
    unfold MdAt
    exact map_range_eq.mpr fun p hp => same_modes ok hf (uni_is p hp).1 h
  · intro h
    unfold MdAt at h
    refine rows_eq.mpr fun p hp => ?_
    have e := map_range_eq.mp h p hp
    obtain ⟨u, u4, u2, u1⟩ := uni_is p hp
    obtain ⟨a4, a2, a1⟩ := itD_pat ok hf i u
    obtain ⟨b4, b2, b1⟩ := itD_pat ok hf j u
    rw [u4] at a4 b4
    rw [u2] at a2 b2
    rw [u1] at a1 b1
    exact ⟨by rw [← a4, ← b4, e], by rw [← a2, ← b2, e], by rw [← a1, ← b1, e]⟩
/-! more places than values -/
theorem php : ∀ (n : Nat) (g : Nat → Nat), (∀ i, i ≤ n → g i < n) → ∃ i j, i < j ∧ j ≤ n ∧ g i = g j
  | 0, g, h => absurd (h 0 (Nat.le_refl 0)) (Nat.not_lt_zero _)
  | n + 1, g, h => by
    by_cases c : ∃ i, i ≤ n ∧ g i = g (n + 1)
    · obtain ⟨i, hi, e⟩ := c
      exact ⟨i, n + 1, by omega, by omega, e⟩
    · have no : ∀ i, i ≤ n → g i ≠ g (n + 1) := fun i hi e => c ⟨i, hi, e⟩
      obtain ⟨i, j, h1, h2, h3⟩ := php n (fun i => if g i = n then g (n + 1) else g i) fun i hi => by
        have b := h i (by omega)
        have b2 := h (n + 1) (Nat.le_refl _)
        have ni := no i hi
        show (if g i = n then g (n + 1) else g i) < n
        split <;> omega
      refine ⟨i, j, h1, by omega, ?_⟩
      have ni := no i (by omega)
      have nj := no j h2
      have h3 : (if g i = n then g (n + 1) else g i) = (if g j = n then g (n + 1) else g j) := h3
      split at h3 <;> split at h3 <;> omega
theorem itN_round {f : Nat → Nat} (l : Low f) {p : Nat} (hp : p < 8) : itN f 847 p = itN f 7 p := by
  obtain ⟨i, j, h1, h2, h3⟩ := php 8 (fun i => itN f i p) fun i _ => itN_low l i p hp
  have h3 : itN f i p = itN f j p := h3
  have step : ∀ t, i ≤ t → itN f (t + (j - i)) p = itN f t p := fun t ht => by
    rw [show t + (j - i) = j + (t - i) by omega, itN_add, ← h3, ← itN_add, show i + (t - i) = t by omega]
  have many : ∀ m, itN f (7 + m * (j - i)) p = itN f 7 p := by
    intro m
    induction m with
    | zero => rw [Nat.zero_mul]
    | succ m ih => rw [Nat.succ_mul, ← Nat.add_assoc, step _ (by omega), ih]
  obtain ⟨m, hm⟩ : ∃ m, m * (j - i) = 840 := by
    have : 0 < j - i ∧ j - i ≤ 8 := by omega
    have h8 : ∀ d, d ≤ 8 → 0 < d → ∃ m, m * d = 840 := by
      intro d hd h0
      match d, hd, h0 with
      | 1, _, _ => exact ⟨840, rfl⟩
      | 2, _, _ => exact ⟨420, rfl⟩
      | 3, _, _ => exact ⟨280, rfl⟩
      | 4, _, _ => exact ⟨210, rfl⟩
      | 5, _, _ => exact ⟨168, rfl⟩
      | 6, _, _ => exact ⟨140, rfl⟩
      | 7, _, _ => exact ⟨120, rfl⟩
      | 8, _, _ => exact ⟨105, rfl⟩
    exact h8 _ this.2 this.1
  have := many m
  rw [hm] at this
  exact this
theorem rows_round {cs : List Cl} (ok : ∀ c ∈ cs, clOk c) (form : Str) : RowsAt cs form 847 = RowsAt cs form 7 :=
  rows_eq.mpr fun _ hp => ⟨itN_round (foldT_low cs ok 0) hp, itN_round (foldT_low cs ok 1) hp, itN_round (foldT_low cs ok (xK form)) hp⟩
/-- N things apart, and then the j-th again -/
structure Cyc {α : Type} (R : Nat → α) (N j : Nat) : Prop where
  lt : j < N
  eq : R N = R j
  ne : ∀ a b, a < b → b < N → R a ≠ R b
theorem Cyc.le {α : Type} {R : Nat → α} {N j N' j' : Nat} (c : Cyc R N j) (d : Cyc R N' j') : N' ≤ N := Nat.le_of_not_lt fun h => d.ne j N c.lt h c.eq.symm
theorem Cyc.one {α : Type} {R : Nat → α} {N j N' j' : Nat} (c : Cyc R N j) (d : Cyc R N' j') : N = N' ∧ j = j' := by
  have e : N = N' := Nat.le_antisymm (d.le c) (c.le d)
  subst e
  refine ⟨rfl, ?_⟩
  have e : R j = R j' := c.eq.symm.trans d.eq
  rcases Nat.lt_trichotomy j j' with h | h | h
  · exact absurd e (c.ne _ _ h d.lt)
  · exact h
  · exact absurd e.symm (c.ne _ _ h c.lt)
theorem Cyc.to {α β : Type} {R : Nat → α} {S : Nat → β} (h : ∀ i j, R i = R j ↔ S i = S j) {N j : Nat} (c : Cyc R N j) : Cyc S N j := ⟨c.lt, (h _ _).mp c.eq, fun a b h1 h2 e => c.ne a b h1 h2 ((h a b).mpr e)⟩
theorem cyc_most {cs : List Cl} (ok : ∀ c ∈ cs, clOk c) {form : Str} {i : Nat} (h : ∀ a b, a < b → b < i → RowsAt cs form a ≠ RowsAt cs form b) : i ≤ 847 :=
  Nat.le_of_not_lt fun hi => h 7 847 (by decide) hi (rows_round ok form).symm
/-! ### changes that set -/
def bitK (k d : Nat) : Nat := if k = 0 then d / 4 % 2 else if k = 1 then d / 2 % 2 else d % 2
theorem set_tabs : ∀ d : Nat, d < 8 → ∀ k : Nat, k < 4 → ∀ p : Nat, p < 8 → tabF "u" "=" (letN d) k p = 4 * bitK k d + p % 4 ∧ tabF "g" "=" (letN d) k p = p / 4 * 4 + 2 * bitK k d + p % 2 ∧ tabF "o" "=" (letN d) k p = p / 2 * 2 + bitK k d := by
  have h : ((List.range 8).all fun (d : Nat) => (List.range 4).all fun (k : Nat) => (List.range 8).all fun (p : Nat) => decide (tabF "u" "=" (letN d) k p = 4 * bitK k d + p % 4 ∧ tabF "g" "=" (letN d) k p = p / 4 * 4 + 2 * bitK k d + p % 2 ∧ tabF "o" "=" (letN d) k p = p / 2 * 2 + bitK k d)) = true := by decide +kernel
  exact fun d hd k hk p hp => of_decide_eq_true (all_nat (all_nat (all_nat h d hd) k hk) p hp)
theorem bit_pat : ∀ n : Nat, n < 512 → 4 * bitK 0 (n / 64) + 2 * bitK 0 (n / 8 % 8) + bitK 0 (n % 8) = patN n 4 ∧ 4 * bitK 1 (n / 64) + 2 * bitK 1 (n / 8 % 8) + bitK 1 (n % 8) = patN n 2 ∧ 4 * bitK 2 (n / 64) + 2 * bitK 2 (n / 8 % 8) + bitK 2 (n % 8) = patN n 1 ∧ 4 * bitK 3 (n / 64) + 2 * bitK 3 (n / 8 % 8) + bitK 3 (n % 8) = patN n 1 := by
  have h : ((List.range 512).all fun (n : Nat) => decide (4 * bitK 0 (n / 64) + 2 * bitK 0 (n / 8 % 8) + bitK 0 (n % 8) = patN n 4 ∧ 4 * bitK 1 (n / 64) + 2 * bitK 1 (n / 8 % 8) + bitK 1 (n % 8) = patN n 2 ∧ 4 * bitK 2 (n / 64) + 2 * bitK 2 (n / 8 % 8) + bitK 2 (n % 8) = patN n 1 ∧ 4 * bitK 3 (n / 64) + 2 * bitK 3 (n / 8 % 8) + bitK 3 (n % 8) = patN n 1)) = true := by decide +kernel
  exact fun n hn => of_decide_eq_true (all_nat h n hn)
theorem bitK_le (k d : Nat) : bitK k d ≤ 1 := by
  unfold bitK
  split
  · omega
  · split <;> omega
theorem set_fold {n k p : Nat} (hn : n < 512) (hk : k < 4) (hp : p < 8) : foldT (setC n) k p = 4 * bitK k (n / 64) + 2 * bitK k (n / 8 % 8) + bitK k (n % 8) := by
  have b0 := bitK_le k (n / 64)
  have b1 := bitK_le k (n / 8 % 8)
  have b2 := bitK_le k (n % 8)
  show tabF "o" "=" (letN (n % 8)) k (tabF "g" "=" (letN (n / 8 % 8)) k (tabF "u" "=" (letN (n / 64)) k p)) = _
  rw [(set_tabs (n / 64) (by omega) k hk p hp).1, (set_tabs (n / 8 % 8) (by omega) k hk _ (by omega)).2.1, (set_tabs (n % 8) (by omega) k hk _ (by omega)).2.2]
  omega
theorem xK_lt (form : Str) : xK form = 2 ∨ xK form = 3 := by
  unfold xK
  split
  · exact .inl rfl
  · exact .inr rfl
theorem set_pats {n p : Nat} (hn : n < 512) (hp : p < 8) (form : Str) : foldT (setC n) 0 p = patN n 4 ∧ foldT (setC n) 1 p = patN n 2 ∧ foldT (setC n) (xK form) p = patN n 1 := by
  obtain ⟨h4, h2, h1, h1'⟩ := bit_pat n hn
  refine ⟨by rw [set_fold hn (by decide) hp, h4], by rw [set_fold hn (by decide) hp, h2], ?_⟩
  rcases xK_lt form with e | e
  · rw [e, set_fold hn (by decide) hp, h1]
  · rw [e, set_fold hn (by decide) hp, h1']
theorem set_is {n m : Nat} {form : Str} (hn : n < 512) (hm : m < 512) (hf : form ∈ forms) : foldN (setC n) m form = n := by
  obtain ⟨f4, f2, f1⟩ := pat_fold (setC n) (n := m) (form := form) (setC_ok hn) hf hm
  rw [← parts_are _ (fold_lt (setC n) hm), f4, f2, f1, (set_pats hn (pat_lt 4 (by decide) m hm) form).1, (set_pats hn (pat_lt 2 (by decide) m hm) form).2.1, (set_pats hn (pat_lt 1 (by decide) m hm) form).2.2, parts_are n hn]
theorem set_cyc {n : Nat} {form : Str} (hn : n < 512) : Cyc (RowsAt (setC n) form) 2 1 := by
  have low := fun k => foldT_low (setC n) (setC_ok hn) k
  refine ⟨by decide, rows_eq.mpr fun p hp => ?_, fun a b h1 h2 => ?_⟩
  · show foldT (setC n) 0 (foldT (setC n) 0 p) = foldT (setC n) 0 p ∧ foldT (setC n) 1 (foldT (setC n) 1 p) = foldT (setC n) 1 p ∧ foldT (setC n) (xK form) (foldT (setC n) (xK form) p) = foldT (setC n) (xK form) p
    refine ⟨?_, ?_, ?_⟩
    · rw [(set_pats hn (low 0 p hp) form).1, (set_pats hn hp form).1]
    · rw [(set_pats hn (low 1 p hp) form).2.1, (set_pats hn hp form).2.1]
    · rw [(set_pats hn (low (xK form) p hp) form).2.2, (set_pats hn hp form).2.2]
  · obtain ⟨rfl, rfl⟩ : a = 0 ∧ b = 1 := by omega
    intro e
    have e := rows_eq.mp e
    have e0 : 0 = foldT (setC n) 0 0 := (e 0 (by decide)).1
    have e1 : 1 = foldT (setC n) 0 1 := (e 1 (by decide)).1
    rw [(set_pats hn (by decide) form).1] at e0 e1
    omega
def lastA : List Cl := [("u", "=", "g"), ("g", "=", "o"), ("o", "=", "u")]
def lastB : List Cl := [("ugo", "-", "")]
theorem lastA_cyc : Cyc (RowsAt lastA "file") 3 1 := by
  refine ⟨by decide, by decide +kernel, fun a b h1 h2 => ?_⟩
  have h : ∀ b < 3, ∀ a < b, RowsAt lastA "file" a ≠ RowsAt lastA "file" b := by decide +kernel
  exact h b h2 a h1
theorem lastB_cyc : Cyc (RowsAt lastB "file") 1 0 := by
  refine ⟨by decide, by decide +kernel, fun a b h1 h2 => by omega⟩
theorem last_facts : (∀ c ∈ lastA, clOk c) ∧ (∀ c ∈ lastB, clOk c) ∧ Txt.split "u=g,g=o,o=u" "," = lastA.map clText ∧ Txt.split "a-" "," = lastB.map clText := by
  unfold clOk
  decide +kernel
end KX
set_option Elab.async false
set_option linter.all false
set_option maxRecDepth 100000
set_option maxHeartbeats 4000000
namespace KX
open PySem PySem.Spec PyProof.Rows L2 Evl
local macro_rules | `(tactic| walk_at "ev") => `(tactic| repeat' (first | exact ev_c | exact ev_var rfl | exact rv_I0 | refine' rv_I ?_ | refine' rv_eq ?_ | refine' rv_ne ?_ | refine' ev_op ?_ ?_ ?_ | exact ea_nil | refine' ea_cons ?_ ?_ | refine' et_test ?_ | refine' et_B ?_ | refine' et_not ?_ | refine' ev_notV ?_))

open PySem
theorem lt64 {n c : Nat} (h : n + 64 < c) : n + 16 < c := by omega
section
variable {P : Program} {w : World} {K : PySem.W.Frag} {H H' : Hp} {b d : Addr} {rows : NRow} {xs : List NEnt} {σ : L2.St} {te ta tb : TE}
theorem rv_notInN (hb : NK K H b rows) (hd : H d = some (DNO P w d xs)) (hk : ∀ x ∈ xs, NK K H x.ad x.rows) : RV (rNotInN K P w) (.ref b) (.ref d) H (.bl (!(nfind xs rows).isSome)) := fun H1 e Q q =>
  ⟨b, d, rows, xs, rfl, rfl, hb.mono e, e _ _ hd, fun x m => (hk x m).mono e, q H1 (Ex.refl H1)⟩
theorem rv_ixN {x : NEnt} (hb : NK K H b rows) (hd : H d = some (DNO P w d xs)) (hk : ∀ x ∈ xs, NK K H x.ad x.rows) (hf : nfind xs rows = some x) : RV (rIxN K P w) (.ref d) (.ref b) H (.int (x.num : Int)) := fun H1 e Q q =>
  ⟨b, d, rows, xs, x, rfl, rfl, hb.mono e, e _ _ hd, fun x m => (hk x m).mono e, hf, q H1 (Ex.refl H1)⟩
theorem ev_lenNd (h : Ev te σ H (.ref d)) (hd : H d = some (DNO P w d xs)) (hk : ∀ x ∈ xs, NK K H x.ad x.rows) : Ev (tCB (rLenN K P w) (tCons te tNil)) σ H (.int ((xs.length : Nat) : Int)) := fun H1 e Q q =>
  h H1 e _ fun H2 e2 => ⟨d, xs, rfl, e2 _ _ (e _ _ hd), fun x m => (hk x m).mono (e.trans e2), q H2 e2⟩
/-- a dict is changed: tuples stay -/
theorem dn_t {o : HO} {c : Addr} {ys : List V} (hd : H d = some (DNO P w d xs)) (h : SqT K H c ys) : SqT K (upd H d o) c ys := by
  rcases h with (h | ⟨ob, h⟩) | h
  · exact .inl (.inl (by rw [upd_ne (fun z => by rw [z, hd] at h; cases h)]; exact h))
  · exact .inl (.inr ⟨ob, by rw [upd_ne (fun z => by rw [z, hd] at h; cases h)]; exact h⟩)
  · exact .inr h
theorem dn_nk {o : HO} {c : Addr} {r : NRow} (hd : H d = some (DNO P w d xs)) (h : NK K H c r) : NK K (upd H d o) c r := by
  obtain ⟨cs, h1, h2, h3⟩ := h
  exact ⟨cs, dn_t hd h1, h2, fun i c r a b => dn_t hd (h3 i c r a b)⟩
end
/-- three rows of eight -/
def Tab3 (K : PySem.W.Frag) (H : Hp) (t : Addr) (f0 f1 f2 : Nat → Nat) : Prop := ∃ t0 t1 t2 : Addr, SqT K H t [.ref t0, .ref t1, .ref t2] ∧ SqT K H t0 (rowV f0) ∧ SqT K H t1 (rowV f1) ∧ SqT K H t2 (rowV f2)
theorem Tab3.mono {K : PySem.W.Frag} {H H' : Hp} {t : Addr} {f0 f1 f2 : Nat → Nat} (h : Tab3 K H t f0 f1 f2) (e : Ex H H') : Tab3 K H' t f0 f1 f2 := by
  obtain ⟨t0, t1, t2, h, h0, h1, h2⟩ := h
  exact ⟨t0, t1, t2, ex_t e h, ex_t e h0, ex_t e h1, ex_t e h2⟩
theorem Tab3.nk {K : PySem.W.Frag} {H : Hp} {t : Addr} {f0 f1 f2 : Nat → Nat} (h : Tab3 K H t f0 f1 f2) : NK K H t [rowL f0, rowL f1, rowL f2] := by
  obtain ⟨t0, t1, t2, h, h0, h1, h2⟩ := h
  have e : ∀ f : Nat → Nat, (rowL f).map (fun (n : Nat) => V.int (n : Int)) = rowV f := fun f => by
    unfold rowL rowV
    rw [List.map_map]
    rfl
  refine ⟨[t0, t1, t2], h, rfl, fun i c r a b => ?_⟩
  match i, a, b with
  | 0, a, b => cases a; cases b; rw [e]; exact h0
  | 1, a, b => cases a; cases b; rw [e]; exact h1
  | 2, a, b => cases a; cases b; rw [e]; exact h2
  | n + 3, a, _ => simp at a
theorem Tab3.dn {P : Program} {w : World} {K : PySem.W.Frag} {H : Hp} {d t : Addr} {xs : List NEnt} {o : HO} {f0 f1 f2 : Nat → Nat} (hd : H d = some (DNO P w d xs)) (h : Tab3 K H t f0 f1 f2) : Tab3 K (upd H d o) t f0 f1 f2 := by
  obtain ⟨t0, t1, t2, h, h0, h1, h2⟩ := h
  exact ⟨t0, t1, t2, dn_t hd h, dn_t hd h0, dn_t hd h1, dn_t hd h2⟩
theorem Tab3.mk3 {K : PySem.W.Frag} {H : Hp} {t : Addr} {qs : List Addr} {rows : Nat → Nat → Nat} (hl : qs.length = 3) (ht : H t = some (.tup (qs.map V.ref))) (h : ∀ j q, qs[j]? = some q → H q = some (.tup (rowV (rows j)))) : Tab3 K H t (rows 0) (rows 1) (rows 2) := by
  match qs, hl with
  | [q0, q1, q2], _ => exact ⟨q0, q1, q2, st_of ht, st_of (h 0 q0 rfl), st_of (h 1 q1 rfl), st_of (h 2 q2 rfl)⟩
def spTurn3 (K : PySem.W.Frag) : Sp := fun vs H Q _ => ∃ (p q : Addr) (f0 f1 f2 g0 g1 g2 : Nat → Nat), vs = [.ref p, .ref q] ∧ Tab3 K H p f0 f1 f2 ∧ Tab3 K H q g0 g1 g2 ∧ Low f0 ∧ Low f1 ∧ Low f2 ∧ ∀ t H', H t = none → Ex H H' → Tab3 K H' t (fun i => g0 (f0 i)) (fun i => g1 (f1 i)) (fun i => g2 (f2 i)) → Q (.ref t) H'
def spCycle (K : PySem.W.Frag) (a : Ads) : Sp := fun vs H Q _ => ∃ (p : Addr) (cs : List Cl) (form : Str), vs = [.ref p, .str form] ∧ ChangeAt K a H p cs ∧ (∀ c ∈ cs, clOk c) ∧ form ∈ forms ∧ ∀ t N j H', Cyc (RowsAt cs form) N j → H t = none → Ex H H' → H' t = some (.tup [.int (j : Nat), .int ((N - j : Nat) : Int)]) → Q (.ref t) H'
def pick3 (f0 f1 f2 : Nat → Nat) (k : Nat) : Nat → Nat := if k = 0 then f0 else if k = 1 then f1 else f2
theorem nfind_none {xs : List NEnt} {rows : NRow} (h : nfind xs rows = none) : ∀ (j : Nat) (e : NEnt), xs[j]? = some e → e.rows ≠ rows := fun j e he z => by
  unfold nfind at h
  have := List.find?_eq_none.mp h e (List.mem_of_getElem? he)
  simp [z] at this
theorem nfind_some {xs : List NEnt} {rows : NRow} {e : NEnt} (h : nfind xs rows = some e) : e.rows = rows ∧ ∃ j : Nat, xs[j]? = some e := by
  unfold nfind at h
  have h1 := List.find?_some h
  have h2 := List.mem_of_find?_eq_some h
  exact ⟨by simpa using h1, List.mem_iff_getElem?.mp h2⟩
section
variable {P : Program} {w : World} {K : PySem.W.Frag} {mg : Str → Option Value} {base : Heap} {a : Ads}
theorem ok_in_turn3 (T : Txt w K mg a) {ft : Addr} {dt : FuncData} (F : Fun K "in_turn" "in_turn" s_in_turn ft dt) : FnOk P w K mg base CX0 1 ft dt ["one", "other"] (spTurn3 K) := by
  refine F.ok sc_in_turn (fun vs H Q E h => ?_) (fun cdv A outer s H vs Q E hr h => ?_)
  · obtain ⟨_, _, _, _, _, _, _, _, rfl, _⟩ := h
    rfl
  · obtain ⟨p, q, b0, b1, b2, c0, c1, c2, rfl, ⟨p0, p1, p2, hp, f0, f1, f2⟩, ⟨q0, q1, q2, hq, g0, g1, g2⟩, l0, l1, l2, k⟩ := h
    refine ⟨_, (pss_one (ps_ret (pe_callTy (call_tupE (K := K)) (by rfl) T.b_tuple (by decide +kernel) (pa_cons (pe_lc (own := [("first", 2), ("later", 3)]) (g := gTup K 2 (gCons (gName 2) (gCons (gName 3) gNil))) rfl sc_in_turn.nd (RZ.pi_zipA (by rfl) T.b_zip (pa_cons (pv 0) (pa_cons (pv 1) pa_nil))) (blkOk_by (own := [("first", 2), ("later", 3)]) (N := n_in_turn) (sc := defScope s_in_turn) (by decide +kernel)) (fun _ _ _ _ _ => (pg_tup rfl (pgs_cons (pg_name (i := 2) sc_in_turn.nd rfl (Or.inl rfl)) (pgs_cons (pg_name (i := 3) sc_in_turn.nd rfl (Or.inr rfl)) pgs_nil)))) (fun _ _ _ _ _ => pts_nil) (fun _ _ _ _ _ => (pe_callTy (call_tupE (K := K)) (by rfl) T.b_tuple (by decide +kernel) (pa_cons (pe_lc (own := [("pattern", 4)]) (g := gName 4) rfl sc_in_turn.nd (pi_tupE (K := K) (pv 2)) (blkOk_by (own := [("pattern", 4)]) (N := n_in_turn) (sc := scFirst) (by decide +kernel)) (fun _ _ _ _ _ => (pg_name (i := 4) sc_in_turn.nd rfl (Or.inl rfl))) (fun _ _ _ _ _ => pts_nil) (fun _ _ _ _ _ => (pe_ix (r := rIxT K) ix_tup (pv 3) (pv 4) (fun _ _ => rfl)))) pa_nil)))) pa_nil)))), ?_⟩
    have at3 : ∀ (i : Nat) (x y : V) (H1 : Hp), Ex H H1 → ([.ref p0, .ref p1, .ref p2] : List V)[i]? = some x → ([.ref q0, .ref q1, .ref q2] : List V)[i]? = some y → ∃ c d : Addr, x = .ref c ∧ y = .ref d ∧ SqT K H1 c (rowV (pick3 b0 b1 b2 i)) ∧ SqT K H1 d (rowV (pick3 c0 c1 c2 i)) := fun i x y H1 e hx hy => by
      match i, hx, hy with
      | 0, hx, hy => exact ⟨p0, q0, (Option.some.inj hx).symm, (Option.some.inj hy).symm, ex_t e f0, ex_t e g0⟩
      | 1, hx, hy => exact ⟨p1, q1, (Option.some.inj hx).symm, (Option.some.inj hy).symm, ex_t e f1, ex_t e g1⟩
      | 2, hx, hy => exact ⟨p2, q2, (Option.some.inj hx).symm, (Option.some.inj hy).symm, ex_t e f2, ex_t e g2⟩
      | n + 3, hx, _ => simp at hx
    have low : ∀ i, Low (pick3 b0 b1 b2 i) := fun i => by
      unfold pick3
      split
      · exact l0
      · split
        · exact l1
        · exact l2
    refine euu_tuple (K := K) (n := 3) (rows := fun k => rowV fun i => pick3 c0 c1 c2 k (pick3 b0 b1 b2 k i)) (ell_zip (K := K) (n := 3) (fun k => rowV fun i => pick3 c0 c1 c2 k (pick3 b0 b1 b2 k i)) (ea_cons (ev_var rfl) (ea_cons (ev_var rfl) ea_nil)) hp hq rfl rfl (by decide) (fun _ _ => rfl) (fun i x y H1 e1 hx hy => ?_)) H (Ex.refl H) _ fun t qs H1 ht e1 hl h1 hrows => k t H1 ht e1 (Tab3.mk3 (rows := fun k i => pick3 c0 c1 c2 k (pick3 b0 b1 b2 k i)) hl h1 fun j q hj => (hrows j q hj).2)
    obtain ⟨c, d, rfl, rfl, hc, hd⟩ := at3 i x y H1 e1 hx hy
    refine eu_tuple (K := K) (el_is (el_lcT (K := K) (xs := rowV (pick3 b0 b1 b2 i)) (σ' := fun x => [some (.ref p), some (.ref q), some (.ref c), some (.ref d), some x]) (fun _ => true) (fun j => V.int (pick3 c0 c1 c2 i (pick3 b0 b1 b2 i j) : Nat)) (ev_var rfl) hc (by unfold rowV; simp) (fun j x H2 Q' e2 hj q => q) (fun _ => rfl) (fun _ _ _ _ _ => et_yes) (fun j x H2 e2 hj _ => ?_)) ?_)
    · obtain ⟨h8, rfl⟩ := row_at hj
      exact ev_op (ev_var rfl) (ev_var rfl) (rv_rowT (ex_t e2 hd) (low i j h8))
    · rw [given_all, show (rowV (pick3 b0 b1 b2 i)).length = 8 by unfold rowV; simp]
      rfl
theorem ok_cycle (T : Txt w K mg a) : FnOk P w K mg base CX0 3 a.f_Change_cycle a.d_Change_cycle ["self", "form"] (spCycle K a) := by
  have G_in_turn : FnOk P w K mg base CX0 1 _ _ _ _ := ok_in_turn3 T T.fn_in_turn
  have G_parts_for : FnOk P w K mg base CX0 1 _ _ _ _ := ok_parts_for T
  refine T.fn_Change_cycle.ok sc_Change_cycle (fun vs H Q E h => ?_) (fun cdv A outer s H vs Q E hr h => ?_)
  · obtain ⟨_, _, _, rfl, _⟩ := h
    rfl
  · obtain ⟨p, cs, form, rfl, ⟨dx, ct, tt, ps, hp, seq, cls, tab⟩, ok, hf, k⟩ := h
    have hrc : Room 1 _ := hr.mono (by decide)
    refine ⟨_, (pss_cons (ps_set (i := 2) sc_Change_cycle.nd rfl (Or.inl rfl) (pe_call G_parts_for hrc rfl T.mg_parts_for T.fn_parts_for.kp (bd_parts_for T) .nil pass0 (pa_cons (pe_fld (pv 0) rfl) (pa_cons (pv 1) pa_nil))))
    (pss_cons (ps_set (i := 3) sc_Change_cycle.nd rfl (Or.inl rfl) (pe_tup (pa_cons (pe_glob (v := .ref a.k_PATTERNS) rfl T.mg_PATTERNS rfl) (pa_cons (pe_glob (v := .ref a.k_PATTERNS) rfl T.mg_PATTERNS rfl) (pa_cons (pe_glob (v := .ref a.k_PATTERNS) rfl T.mg_PATTERNS rfl) pa_nil)))))
    (pss_cons (ps_set (i := 4) sc_Change_cycle.nd rfl (Or.inl rfl) pe_dnewN)
    (pss_cons (ps_while PassesOwn.never (pt_cmpR (op_notInN (lt64 hr.units)) (pv 3) (pv 4) (by rfl)) (pss_cons (ps_asg (pe_callB call_lenN (by rfl) T.b_len PySem.boot_len (pa_cons (pv 4) pa_nil)) (pg_sub (pv 4) (pv 3) (set_dictN (lt64 hr.units))))
    (pss_one (ps_set (i := 3) sc_Change_cycle.nd rfl (Or.inl rfl) (pe_call G_in_turn hrc rfl T.mg_in_turn T.fn_in_turn.kp (bd_in_turn T) .nil pass0 (pa_cons (pv 3) (pa_cons (pv 2) pa_nil)))))))
    (pss_cons (ps_set (i := 5) sc_Change_cycle.nd rfl (Or.inl rfl) (pe_ix (ix_dictN (lt64 hr.units)) (pv 4) (pv 3) (fun _ _ => rfl)))
    (pss_one (ps_ret (pe_tup (pa_cons (pv 5) (pa_cons (pe_op op_sub (pe_callB call_lenN (by rfl) T.b_len PySem.boot_len (pa_cons (pv 4) pa_nil)) (pv 5)) pa_nil)))))))))), ?_⟩
    obtain ⟨t0, t1, t2, t3, ht, h0, h1, h2, h3⟩ := tab
    have low := foldT_low cs ok
    refine q_asgU (eu_call (vs := [.ref tt, .str form]) (ea_cons (ev_fld (ev_var rfl) hp T.c_Change T.n_tables_Change (chf_tables ct tt)) (ea_cons (ev_var rfl) ea_nil)) fun H1 e1 Q1 q1 E1 => ⟨tt, t0, t1, t2, t3, form, rfl, ex_t e1 ht, q1⟩) fun o H1 _ e1 ho => ?_
    have once : Tab3 K H1 o (foldT cs 0) (foldT cs 1) (foldT cs (xK form)) := by
      refine ⟨t0, t1, _, st_of ho, ex_t e1 h0, ex_t e1 h1, ?_⟩
      unfold xK
      cases decide (V.str form = V.str "file")
      · exact ex_t e1 h3
      · exact ex_t e1 h2
    refine q_asgU (eu_tup (ea_cons ev_c (ea_cons ev_c (ea_cons ev_c ea_nil))) (by show 3 ≤ 100000; decide)) fun s0 H2 _ e2 hs0 => ?_
    have row0 : SqT K H2 a.k_PATTERNS (rowV (itN (foldT cs 0) 0)) := T.t_PATTERNS H2
    have tab0 : Tab3 K H2 s0 (itN (foldT cs 0) 0) (itN (foldT cs 1) 0) (itN (foldT cs (xK form)) 0) := ⟨_, _, _, st_of hs0, row0, row0, row0⟩
    refine fun d hd => ?_
    have hdH : H d = none := fresh_back (e1.trans e2) hd
    have e02 : Ex H H2 := e1.trans e2
    let IV : Nat → L2.St → Hp → Prop := fun i σ' H' => ∃ t xs o5, σ' = [some (.ref p), some (.str form), some (.ref o), some (.ref t), some (.ref d), o5] ∧ Ex H H' ∧ Tab3 K H' t (itN (foldT cs 0) i) (itN (foldT cs 1) i) (itN (foldT cs (xK form)) i) ∧ Tab3 K H' o (foldT cs 0) (foldT cs 1) (foldT cs (xK form)) ∧
      H' d = some (DNO P w d xs) ∧ xs.length = i ∧ (∀ (j : Nat) (e : NEnt), xs[j]? = some e → e.rows = RowsAt cs form j ∧ e.num = j) ∧ (∀ x ∈ xs, NK K H' x.ad x.rows) ∧ ∀ a b, a < b → b < i → RowsAt cs form a ≠ RowsAt cs form b
    refine q_while (fun m σ' H' => ∃ i, m = 848 - i ∧ IV i σ' H') 848 ⟨0, rfl, s0, [], _, rfl, Ex.mut e02 hdH, tab0.mono (Ex.new hd), (once.mono e2).mono (Ex.new hd), upd_same, rfl, fun j e h => by simp at h, fun x m => (nomatch m), fun a b h1 h2 => absurd h2 (Nat.not_lt_zero _)⟩ fun m σ' H' q => ?_
    obtain ⟨i, rfl, t, xs, o5, rfl, e, tb, on, hdd, hl, hx, hk, dis⟩ := q
    have nk : NK K H' t (RowsAt cs form i) := tb.nk
    refine ⟨!(nfind xs (RowsAt cs form i)).isSome, et_test (ev_op (ev_var rfl) (ev_var rfl) (rv_notInN nk hdd hk)), fun hb H3 e3 => ?_, fun hb H3 e3 => ?_⟩
    · have hnone : nfind xs (RowsAt cs form i) = none := by
        cases z : nfind xs (RowsAt cs form i) with
        | none => rfl
        | some y => rw [z] at hb; cases hb
      have dis2 : ∀ a b, a < b → b < i + 1 → RowsAt cs form a ≠ RowsAt cs form b := fun a b h1 h2 => by
        by_cases hbi : b < i
        · exact dis a b h1 hbi
        · obtain rfl : b = i := by omega
          have ha : a < xs.length := by omega
          have := nfind_none hnone a xs[a] (by simp [ha])
          rw [(hx a xs[a] (by simp [ha])).1] at this
          exact this
      have most := cyc_most ok dis2
      refine ⟨IV (i + 1), fun σ2 H2 h => ⟨848 - (i + 1), by omega, i + 1, rfl, h⟩, ?_⟩
      have hdd3 := e3 _ _ hdd
      have hk3 : ∀ x ∈ xs, NK K H3 x.ad x.rows := fun x m => (hk x m).mono e3
      refine ⟨.ref d, rfl, d, xs, rfl, hdd3, hk3, .ref d, rfl, .ref t, rfl, t, d, RowsAt cs form i, xs, xs.length, rfl, rfl, rfl, nk.mono e3, hdd3, hk3, hnone, by omega, fun tk => ?_⟩
      refine ⟨.ref t, rfl, .ref o, rfl, t, o, _, _, _, _, _, _, rfl, (tb.mono e3).dn hdd3, (on.mono e3).dn hdd3, itN_low (low 0) i, itN_low (low 1) i, itN_low (low _) i, fun t' H5 _ e5 tab5 => ?_⟩
      refine ⟨t', xs ++ [NEnt.mk (RowsAt cs form i) t xs.length tk], o5, rfl, (Ex.mut (e.trans e3) hdH).trans e5, tab5, ((on.mono e3).dn hdd3).mono e5, e5 _ _ upd_same, by rw [List.length_append, hl]; rfl, fun j y hy => ?_, fun x m => ?_, dis2⟩
      · by_cases hj : j < xs.length
        · rw [List.getElem?_append_left hj] at hy
          exact hx j y hy
        · have hj2 : j = xs.length := by
            have := (List.getElem?_eq_some_iff.mp hy).1
            rw [List.length_append] at this
            have e1 : ([NEnt.mk (RowsAt cs form i) t xs.length tk] : List NEnt).length = 1 := rfl
            omega
          subst hj2
          rw [List.getElem?_append_right (Nat.le_refl _), Nat.sub_self] at hy
          obtain rfl : NEnt.mk (RowsAt cs form i) t xs.length tk = y := Option.some.inj hy
          exact ⟨by rw [hl], rfl⟩
      · rcases List.mem_append.mp m with m | m
        · exact (dn_nk hdd3 (hk3 x m)).mono e5
        · rw [List.mem_singleton.mp m]
          exact (dn_nk hdd3 (nk.mono e3)).mono e5
    · obtain ⟨y, hy⟩ : ∃ y, nfind xs (RowsAt cs form i) = some y := by
        cases z : nfind xs (RowsAt cs form i) with
        | none => rw [z] at hb; cases hb
        | some y => exact ⟨y, rfl⟩
      obtain ⟨er, j, hj⟩ := nfind_some hy
      obtain ⟨r1, r2⟩ := hx j y hj
      have hji : j < i := by rw [← hl]; exact (List.getElem?_eq_some_iff.mp hj).1
      have cyc : Cyc (RowsAt cs form) i j := ⟨hji, by rw [← er, r1], dis⟩
      have hdd3 := e3 _ _ hdd
      have hk3 : ∀ x ∈ xs, NK K H3 x.ad x.rows := fun x m => (hk x m).mono e3
      refine q_asg (v := .int (j : Nat)) (ev_is (ev_op (ev_var rfl) (ev_var rfl) (rv_ixN (nk.mono e3) hdd3 hk3 hy)) (by rw [r2])) fun H4 e4 => ?_
      have hk4 : ∀ x ∈ xs, NK K H4 x.ad x.rows := fun x m => (hk3 x m).mono e4
      exact s_retU (xs := [.int (j : Nat), .int ((i - j : Nat) : Int)]) (eu_tup (ea_cons (ev_var rfl) (ea_cons (ev_is (ev_op (ev_lenNd (ev_var rfl) (e4 _ _ hdd3) hk4) (ev_var rfl) rv_I0) (by rw [hl]; congr 1; omega)) ea_nil)) (by show 2 ≤ 100000; decide)) fun t' H5 ht e5 h5 => k t' i j H5 cyc (fresh_back ((e.trans e3).trans e4) ht) (((e.trans e3).trans e4).trans e5) h5
end
end KX
set_option Elab.async false
set_option linter.all false
set_option maxRecDepth 100000
set_option maxHeartbeats 4000000
namespace KX
open PySem PySem.Spec PyProof.Rows L2 Evl
local macro_rules | `(tactic| walk_at "ev") => `(tactic| repeat' (first | exact ev_c | exact ev_var rfl | exact rv_I0 | refine' rv_I ?_ | refine' rv_eq ?_ | refine' rv_ne ?_ | refine' ev_op ?_ ?_ ?_ | exact ea_nil | refine' ea_cons ?_ ?_ | refine' et_test ?_ | refine' et_B ?_ | refine' et_not ?_ | refine' ev_notV ?_))

open PySem
theorem hr65 {k : Nat} {A : Around} (r : Room k A) : A.units + 65 < cLine := by have := r.un; omega
/-! ### tuples of numbers, lists of such, as data -/
def tupD (ns : List Nat) : PyData := .tuple (ns.map fun (n : Nat) => .int (n : Int))
def numV (ns : List Nat) : List V := ns.map fun (n : Nat) => V.int (n : Int)
theorem dp_nums {K : PySem.W.Frag} {H : Hp} : ∀ ns : List Nat, DpAll K H (numV ns) (ns.map fun (n : Nat) => PyData.int (n : Int))
  | [] => .nil
  | n :: ns => .cons (.int _) (dp_nums ns)
theorem dp_tupN {K : PySem.W.Frag} {H : Hp} {p : Addr} {ns : List Nat} (h : SqT K H p (numV ns)) : Dp K H (.ref p) (tupD ns) := .tup h (dp_nums ns)
theorem eqv_nats : ∀ a b : List Nat, PyData.eqvAll (a.map fun (n : Nat) => PyData.int (n : Int)) (b.map fun (n : Nat) => PyData.int (n : Int)) = decide (a = b)
  | [], [] => by simp [PyData.eqvAll]
  | [], _ :: _ => by simp [PyData.eqvAll]
  | _ :: _, [] => by simp [PyData.eqvAll]
  | x :: a, y :: b => by
    have := eqv_nats a b
    simp only [List.map_cons, PyData.eqvAll, PyData.eqv, this]
    by_cases h : x = y <;> by_cases h2 : a = b <;> simp [h, h2]
    omega
theorem eqv_tup (a b : List Nat) : PyData.eqv (tupD a) (tupD b) = decide (a = b) := by
  rw [show PyData.eqv (tupD a) (tupD b) = PyData.eqvAll (a.map fun (n : Nat) => PyData.int (n : Int)) (b.map fun (n : Nat) => PyData.int (n : Int)) by simp [tupD, PyData.eqv], eqv_nats]
theorem lay_nats : ∀ a : List Nat, PyData.canLayAll0 (a.map fun (n : Nat) => PyData.int (n : Int)) = true ∧ PyData.depthAll (a.map fun (n : Nat) => PyData.int (n : Int)) = 0
  | [] => ⟨rfl, rfl⟩
  | x :: a => by
    obtain ⟨h1, h2⟩ := lay_nats a
    simp [PyData.canLayAll0, PyData.canLay0, PyData.depthAll, PyData.depth, h1, h2]
theorem lay_tups : ∀ a : List (List Nat), PyData.canLayAll0 (a.map tupD) = true ∧ PyData.depthAll (a.map tupD) ≤ 1
  | [] => ⟨rfl, Nat.zero_le _⟩
  | x :: a => by
    obtain ⟨h1, h2⟩ := lay_tups a
    obtain ⟨h3, h4⟩ := lay_nats x
    refine ⟨by simp [tupD, PyData.canLayAll0, PyData.canLay0, h1, h3], ?_⟩
    simp only [List.map_cons, tupD, PyData.depthAll, PyData.depth, h4]
    omega
theorem shaped_tup (a : List Nat) : SeqAt.shaped (tupD a) = true := by
  obtain ⟨h3, h4⟩ := lay_nats a
  refine Bool.and_eq_true_iff.mpr ⟨by simp [tupD, PyData.canLay0, h3], decide_eq_true ?_⟩
  simp only [tupD, PyData.depth, h4]
  omega
theorem shaped_tups (a : List (List Nat)) : SeqAt.shaped (.list (a.map tupD)) = true := by
  obtain ⟨h3, h4⟩ := lay_tups a
  refine Bool.and_eq_true_iff.mpr ⟨by simp [PyData.canLay0, h3], decide_eq_true ?_⟩
  simp only [PyData.depth]
  omega
/-- a list of tuples of numbers -/
def Seen (K : PySem.W.Frag) (H : Hp) (s : Addr) (rows : List (List Nat)) : Prop := ∃ ts : List Addr, H s = some (.lst (ts.map V.ref)) ∧ ts.length = rows.length ∧ ∀ (j : Nat) (t : Addr) (r : List Nat), ts[j]? = some t → rows[j]? = some r → SqT K H t (numV r)
theorem Seen.mono {K : PySem.W.Frag} {H H' : Hp} {s : Addr} {rows : List (List Nat)} (h : Seen K H s rows) (e : Ex H H') : Seen K H' s rows := by
  obtain ⟨ts, h1, h2, h3⟩ := h
  exact ⟨ts, e _ _ h1, h2, fun j t r a b => ex_t e (h3 j t r a b)⟩
theorem dp_seenAll {K : PySem.W.Frag} {H : Hp} : ∀ (ts : List Addr) (rows : List (List Nat)), ts.length = rows.length → (∀ (j : Nat) (t : Addr) (r : List Nat), ts[j]? = some t → rows[j]? = some r → SqT K H t (numV r)) → DpAll K H (ts.map V.ref) (rows.map tupD)
  | [], [], _, _ => .nil
  | [], _ :: _, h, _ => by simp at h
  | _ :: _, [], h, _ => by simp at h
  | t :: ts, r :: rows, hl, h => .cons (dp_tupN (h 0 t r rfl rfl)) (dp_seenAll ts rows (by simpa using hl) fun j t' r' a b => h (j + 1) t' r' (by simpa using a) (by simpa using b))
theorem Seen.dp {K : PySem.W.Frag} {H : Hp} {s : Addr} {rows : List (List Nat)} (h : Seen K H s rows) : Dp K H (.ref s) (.list (rows.map tupD)) := by
  obtain ⟨ts, h1, h2, h3⟩ := h
  exact .lst (sq_of h1) (dp_seenAll ts rows h2 h3)
section
variable {K : PySem.W.Frag} {σ : L2.St} {H H' : Hp} {ta tb te : TE} {t s : Addr} {r : List Nat} {rows : List (List Nat)}
theorem rv_notSeen (ht : SqT K H t (numV r)) (hs : Seen K H s rows) : RV (rNotInD K) (.ref t) (.ref s) H (.bl (!rows.any fun z => decide (z = r))) := fun H1 e Q q =>
  ⟨tupD r, rows.map tupD, dp_tupN (ex_t e ht), (hs.mono e).dp, shaped_tup r, shaped_tups rows, by
    rw [List.any_map, show (rows.any ((fun z => PyData.eqv z (tupD r)) ∘ tupD)) = rows.any fun z => decide (z = r) by
      congr 1
      funext z
      exact eqv_tup z r]
    exact q H1 (Ex.refl H1)⟩
theorem ev_index {j : Nat} (ha : Ev ta σ H (.ref s)) (hb : Ev tb σ H (.ref t)) (ht : SqT K H t (numV r)) (hs : Seen K H s rows) (hj : rows[j]? = some r) (hn : ∀ m, m < j → rows[m]? ≠ some r) : Ev (tBM K "list" (rIndexD K) ta (tCons tb tNil)) σ H (.int (j : Nat)) := fun H1 e Q q =>
  ha H1 e _ fun H2 e2 => by
    obtain ⟨ts, h1, _, _⟩ := id (hs.mono (e.trans e2))
    refine ⟨.inl ⟨rfl, _, sq_of h1⟩, hb H2 (e.trans e2) _ fun H3 e3 => ?_⟩
    have e03 := (e.trans e2).trans e3
    refine ⟨s, .ref t, tupD r, rows.map tupD, j, tupD r, rfl, rfl, (hs.mono e03).dp, dp_tupN (ex_t e03 ht), shaped_tups rows, shaped_tup r, by rw [List.getElem?_map, hj]; rfl, by rw [eqv_tup]; exact decide_eq_true rfl, fun m z hm hz => ?_, q H3 (e2.trans e3)⟩
    rw [List.getElem?_map] at hz
    obtain ⟨y, hy, rfl⟩ := Option.map_eq_some_iff.mp hz
    rw [eqv_tup]
    exact decide_eq_false fun z => hn m hm (by rw [hy, z])
end
theorem uni_is2 : ∀ p : Nat, p < 8 → 448 * ((p : Int) / 2 ^ (2 : Int).toNat) + 56 * Builtin.bitAnd ((p : Int) / 2 ^ (1 : Int).toNat) 1 + 7 * Builtin.bitAnd (p : Int) 1 = (uni p : Nat) := by
  have h : ((List.range 8).all fun (p : Nat) => decide (448 * ((p : Int) / 2 ^ (2 : Int).toNat) + 56 * Builtin.bitAnd ((p : Int) / 2 ^ (1 : Int).toNat) 1 + 7 * Builtin.bitAnd (p : Int) 1 = (uni p : Nat))) = true := by decide +kernel
  exact fun p hp => of_decide_eq_true (all_nat h p hp)
def spLCycle (K : PySem.W.Frag) : Sp := fun vs H Q _ => ∃ (l : Addr) (cs : List Cl) (form : Str), vs = [.ref l, .str form] ∧ ToldAt H l cs ∧ (∀ c ∈ cs, clOk c) ∧ form ∈ forms ∧ ∀ t N j H', Cyc (RowsAt cs form) N j → H t = none → Ex H H' → H' t = some (.tup [.int (j : Nat), .int ((N - j : Nat) : Int)]) → Q (.ref t) H'
def spTimes : Sp := fun vs H Q _ => ∃ (l : Addr) (cs : List Cl) (n k : Nat) (form : Str), vs = [.ref l, .int n, .str form, .int k] ∧ ToldAt H l cs ∧ (∀ c ∈ cs, clOk c) ∧ n < 512 ∧ k ≤ 100000 ∧ ∀ H', Ex H H' → Q (.int (itD cs form k n : Nat)) H'
def spLLet : Sp := fun vs H Q _ => ∃ d : Nat, vs = [.int d] ∧ d < 8 ∧ ∀ H', Ex H H' → Q (.str (letN d)) H'
section
variable {P : Program} {w : World} {K : PySem.W.Frag} {mg : Str → Option Value} {base : Heap} {a : Ads}
theorem ok_times (T : Txt w K mg a) : FnOk P w K mg base CX0 5 a.f__law_times a.d__law_times ["_law_change_here", "_law_number", "_law_form_so", "_law_many"] spTimes := by
  have G__law_change_done : FnOk P w K mg base CX0 3 _ _ _ _ := ok_change_done T
  refine T.fn__law_times.ok sc__law_times (fun vs H Q E h => ?_) (fun cdv A outer s H vs Q E hr h => ?_)
  · obtain ⟨_, _, _, _, _, rfl, _⟩ := h
    rfl
  · obtain ⟨l, cs, n, kk, form, rfl, told, ok, hn, hk, k⟩ := h
    have hrc : Room 3 _ := hr.mono (by decide)
    refine ⟨_, (pss_cons (ps_for PassesOwn.never rfl (pi_range1 rfl T.b_range (pa_cons (pv 3) pa_nil)) (pg_name (i := 4) sc__law_times.nd rfl (Or.inl rfl)) (pss_one (ps_set (i := 1) sc__law_times.nd rfl (Or.inl rfl) (pe_call G__law_change_done hrc rfl T.mg__law_change_done T.fn__law_change_done.kp (bd__law_change_done T) .nil pass0 (pa_cons (pv 0) (pa_cons (pv 1) (pa_cons (pv 2) pa_nil)))))))
    (pss_one (ps_ret (pv 1)))), ?_⟩
    refine q_forR1 (n := kk) (ea_cons (ev_var rfl) ea_nil) (by omega) (fun i σ' H' => ∃ o4, σ' = [some (.ref l), some (.int (itD cs form i n : Nat)), some (.str form), some (.int (kk : Nat)), o4] ∧ Ex H H') (fun H1 e1 => ⟨_, rfl, e1⟩) (fun i σ' H' hi q => ?_) (fun σ' H' q => ?_)
    · obtain ⟨o4, rfl, e⟩ := q
      exact s_asg (v := .int (itD cs form (i + 1) n : Nat)) (ev_call (vs := [.ref l, .int (itD cs form i n : Nat), .str form]) (by walk_at "ev") fun H2 e2 Q2 q2 E2 => ⟨l, cs, _, form, rfl, told.mono (e.trans e2), ok, itD_lt i hn, q2⟩) fun H2 e2 => ⟨_, rfl, e.trans e2⟩
    · obtain ⟨o4, rfl, e⟩ := q
      refine s_ret (v := .int (itD cs form kk n : Nat)) (ev_is (ev_var rfl) ?_) fun H2 e2 => k H2 (e.trans e2)
      rw [Int.toNat_natCast]
theorem ok_lletters (T : Txt w K mg a) : FnOk P w K mg base CX0 1 a.f__law_letters a.d__law_letters ["_law_digit"] spLLet := by
  refine T.fn__law_letters.ok sc__law_letters (fun vs H Q E h => ?_) (fun cdv A outer s H vs Q E hr h => ?_)
  · obtain ⟨_, rfl, _⟩ := h
    rfl
  · obtain ⟨d, rfl, hd, k⟩ := h
    refine ⟨_, (pss_one (ps_ret (pe_ix ix_list (pe_lst (pa_cons pe_str (pa_cons pe_str (pa_cons pe_str (pa_cons pe_str (pa_cons pe_str (pa_cons pe_str (pa_cons pe_str (pa_cons pe_str pa_nil))))))))) (pv 0) (fun _ _ => rfl)))), ?_⟩
    refine s_ret (v := .str (letN d)) (ev_opL1 (xs := letL.map V.str) (el_lst (by unfold letL; walk_at "ev") (by decide)) (fun _ _ => ev_var rfl) fun p H1 hp e1 => rv_ixL (sq_of hp) (atI_nat ?_)) fun H2 e2 => k H2 e2
    rw [List.getElem?_map]
    unfold letN
    have : d < letL.length := hd
    simp [List.getD, this]
theorem ok_lcycle (T : Txt w K mg a) : FnOk P w K mg base CX0 5 a.f__law_cycle a.d__law_cycle ["_law_change_here", "_law_form_so"] (spLCycle K) := by
  have G__law_change_done : FnOk P w K mg base CX0 3 _ _ _ _ := ok_change_done T
  refine T.fn__law_cycle.ok sc__law_cycle (fun vs H Q E h => ?_) (fun cdv A outer s H vs Q E hr h => ?_)
  · obtain ⟨_, _, _, rfl, _⟩ := h
    rfl
  · obtain ⟨l, cs, form, rfl, told, ok, hf, k⟩ := h
    have hrc : Room 3 _ := hr.mono (by decide)
    refine ⟨_, (pss_cons (ps_set (i := 2) sc__law_cycle.nd rfl (Or.inl rfl) (pe_callTy (call_tupE (K := K)) (by rfl) T.b_tuple (by decide +kernel) (pa_cons (pe_lc (own := [("_law_p", 4)]) (g := gName 4) rfl sc__law_cycle.nd (pi_range1 rfl T.b_range (pa_cons pe_int pa_nil)) (blkOk_by (own := [("_law_p", 4)]) (N := n__law_cycle) (sc := defScope s__law_cycle) (by decide +kernel)) (fun _ _ _ _ _ => (pg_name (i := 4) sc__law_cycle.nd rfl (Or.inl rfl))) (fun _ _ _ _ _ => pts_nil) (fun _ _ _ _ _ => (pe_op op_add (pe_op op_add (pe_op op_mul pe_int (pe_op op_shr (pv 4) pe_int)) (pe_op op_mul pe_int (pe_op op_and (pe_op op_shr (pv 4) pe_int) pe_int))) (pe_op op_mul pe_int (pe_op op_and (pv 4) pe_int))))) pa_nil)))
    (pss_cons (ps_set (i := 3) sc__law_cycle.nd rfl (Or.inl rfl) (pe_lst pa_nil))
    (pss_cons (ps_while PassesOwn.never (pt_cmpR (op_notInD (hr65 hr)) (pv 2) (pv 3) (by rfl)) (pss_cons (ps_expr (pe_bm PySem.F.plainAttrs_list PySem.F.slot_list_append PySem.F.type_list_append mt_append (pv 3) (pa_cons (pv 2) pa_nil)))
    (pss_one (ps_set (i := 2) sc__law_cycle.nd rfl (Or.inl rfl) (pe_callTy (call_tupE (K := K)) (by rfl) T.b_tuple (by decide +kernel) (pa_cons (pe_lc (own := [("_law_number", 5)]) (g := gName 5) rfl sc__law_cycle.nd (pi_tupE (K := K) (pv 2)) (blkOk_by (own := [("_law_number", 5)]) (N := n__law_cycle) (sc := defScope s__law_cycle) (by decide +kernel)) (fun _ _ _ _ _ => (pg_name (i := 5) sc__law_cycle.nd rfl (Or.inl rfl))) (fun _ _ _ _ _ => pts_nil) (fun _ _ _ _ _ => (pe_call G__law_change_done hrc rfl T.mg__law_change_done T.fn__law_change_done.kp (bd__law_change_done T) .nil pass0 (pa_cons (pv 0) (pa_cons (pv 5) (pa_cons (pv 1) pa_nil)))))) pa_nil))))))
    (pss_one (ps_ret (pe_tup (pa_cons (pe_bm PySem.F.plainAttrs_list PySem.F.slot_list_index PySem.F.type_list_index (mt_indexD (hr65 hr)) (pv 3) (pa_cons (pv 2) pa_nil)) (pa_cons (pe_op op_sub (pe_callB call_len_seq (by rfl) T.b_len PySem.boot_len (pa_cons (pv 3) pa_nil)) (pe_bm PySem.F.plainAttrs_list PySem.F.slot_list_index PySem.F.type_list_index (mt_indexD (hr65 hr)) (pv 3) (pa_cons (pv 2) pa_nil))) pa_nil)))))))), ?_⟩
    refine q_asgU (xs := numV (MdAt cs form 0)) (eu_tuple (K := K) (el_is (el_lcR1 (n := 8) (fun _ => true) (fun i => V.int (uni i : Nat)) (ea_cons ev_c ea_nil) (by decide) (fun _ => rfl) (fun _ _ _ _ => et_yes) (fun i H1 e1 hi _ => ?_)) (by rw [given_all]; rfl))) fun t0 H1 _ e1 h1 => ?_
    · have hi8 : i < 8 := by omega
      exact ev_is (ev_op (ev_op (ev_op ev_c (ev_op (ev_var rfl) ev_c (rv_I (by decide))) (rv_I (.inl ⟨by decide, by decide⟩))) (ev_op ev_c (ev_op (ev_op (ev_var rfl) ev_c (rv_I (by decide))) ev_c rv_I0) (rv_I (.inl ⟨by decide, by decide⟩))) rv_I0) (ev_op ev_c (ev_op (ev_var rfl) ev_c rv_I0) (rv_I (.inl ⟨by decide, by decide⟩))) rv_I0) (congrArg V.int (uni_is2 i hi8))
    refine q_asgL (xs := []) (el_lst ea_nil (by decide)) fun s H2 hs e2 h2 => ?_
    have hsH : H s = none := fresh_back e1 hs
    have e02 : Ex H H2 := e1.trans e2
    let IV : Nat → L2.St → Hp → Prop := fun i σ' H' => ∃ t o4 o5, σ' = [some (.ref l), some (.str form), some (.ref t), some (.ref s), o4, o5] ∧ Ex H H' ∧ H' t = some (.tup (numV (MdAt cs form i))) ∧ Seen K H' s ((List.range i).map (MdAt cs form)) ∧ ∀ a b, a < b → b < i → MdAt cs form a ≠ MdAt cs form b
    have rows := md_rows (cs := cs) (form := form) ok hf
    refine q_while (fun m σ' H' => ∃ i, m = 848 - i ∧ IV i σ' H') 848 ⟨0, rfl, t0, _, _, rfl, e02, e2 _ _ h1, ⟨[], h2, rfl, fun j t r a => by simp at a⟩, fun a b h1 h2 => absurd h2 (Nat.not_lt_zero _)⟩ fun m σ' H' q => ?_
    obtain ⟨i, rfl, t, o4, o5, rfl, e, ht, hse, dis⟩ := q
    refine ⟨!(((List.range i).map (MdAt cs form)).any fun z => decide (z = MdAt cs form i)), et_test (ev_op (ev_var rfl) (ev_var rfl) (rv_notSeen (st_of ht) hse)), fun hb H3 e3 => ?_, fun hb H3 e3 => ?_⟩
    · have hno : ∀ a, a < i → MdAt cs form a ≠ MdAt cs form i := fun a ha z => by
        have : (((List.range i).map (MdAt cs form)).any fun z => decide (z = MdAt cs form i)) = true := List.any_eq_true.mpr ⟨MdAt cs form a, List.mem_map.mpr ⟨a, List.mem_range.mpr ha, rfl⟩, decide_eq_true z⟩
        rw [this] at hb
        cases hb
      have dis2 : ∀ a b, a < b → b < i + 1 → MdAt cs form a ≠ MdAt cs form b := fun a b h1 h2 => by
        by_cases hbi : b < i
        · exact dis a b h1 hbi
        · obtain rfl : b = i := by omega
          exact hno a h1
      have most := cyc_most ok (form := form) (i := i + 1) fun a b h1 h2 z => dis2 a b h1 h2 ((rows a b).mp z)
      refine ⟨IV (i + 1), fun σ2 H2 h => ⟨848 - (i + 1), by omega, i + 1, rfl, h⟩, ?_⟩
      obtain ⟨ts, hl, hlen, hrows⟩ := hse.mono e3
      have hlen2 : ts.length = i := by rw [hlen, List.length_map, List.length_range]
      refine q_app hl (ev_var rfl) (v := .ref t) (ev_var rfl) (by rw [List.length_map, hlen2]; omega) fun H4 e4 => ?_
      have hl4 := e4 _ _ hl
      have nt : ∀ (c : Addr) (ys : List V), SqT K H4 c ys → SqT K (upd H4 s (.lst (ts.map V.ref ++ [.ref t]))) c ys := fun c ys h => grow_t (zs := ts.map V.ref) (fun b o hb ne => by rw [upd_ne ne]; exact hb) hl4 h
      have hts : t ≠ s := fun z => by have := e4 _ _ (e3 _ _ ht); rw [z, hl4] at this; cases this
      have ht4 : (upd H4 s (.lst (ts.map V.ref ++ [.ref t]))) t = some (.tup (numV (MdAt cs form i))) := by rw [upd_ne hts]; exact e4 _ _ (e3 _ _ ht)
      have e04 : Ex H (upd H4 s (.lst (ts.map V.ref ++ [.ref t]))) := Ex.mut ((e.trans e3).trans e4) hsH
      refine s_asgU (xs := numV (MdAt cs form (i + 1))) (eu_tuple (K := K) (el_is (el_lcT (K := K) (xs := numV (MdAt cs form i)) (σ' := fun x => [some (.ref l), some (.str form), some (.ref t), some (.ref s), o4, some x]) (fun _ => true) (fun j => V.int (itD cs form (i + 1) (uni j) : Nat)) (ev_var rfl) (st_of ht4) (by unfold numV MdAt; simp) (fun j x H5 Q' e5 hj q => q) (fun _ => rfl) (fun _ _ _ _ _ => et_yes) (fun j x H5 e5 hj _ => ?_)) ?_)) fun t' H5 _ e5 h5 => ?_
      · have hj8 : j < 8 := by
          have := (List.getElem?_eq_some_iff.mp hj).1
          unfold numV MdAt at this
          simpa using this
        obtain rfl : x = .int (itD cs form i (uni j) : Nat) := by
          unfold numV MdAt at hj
          rw [List.getElem?_map, List.getElem?_map, List.getElem?_range hj8] at hj
          exact (Option.some.inj hj).symm
        exact ev_call (vs := [.ref l, .int (itD cs form i (uni j) : Nat), .str form]) (by walk_at "ev") fun H6 e6 Q6 q6 E6 => ⟨l, cs, _, form, rfl, told.mono ((e04.trans e5).trans e6), ok, itD_lt i (uni_is j hj8).1, q6⟩
      · rw [given_all, show (numV (MdAt cs form i)).length = 8 by unfold numV MdAt; simp]
        unfold numV MdAt
        rw [List.map_map]
        rfl
      · refine ⟨t', _, _, rfl, e04.trans e5, h5, ⟨ts ++ [t], by rw [List.map_append]; exact e5 _ _ upd_same, by rw [List.length_append, hlen2, List.length_map, List.length_range]; rfl, fun j c r hc hr => ?_⟩, dis2⟩
        have hj : j < i + 1 := by
          have := (List.getElem?_eq_some_iff.mp hr).1
          simpa using this
        rw [List.getElem?_map, List.getElem?_range hj] at hr
        obtain rfl : MdAt cs form j = r := Option.some.inj hr
        by_cases hji : j < i
        · rw [List.getElem?_append_left (by rw [hlen2]; exact hji)] at hc
          exact ex_t e5 (nt _ _ (ex_t e4 (hrows j c _ hc (by rw [List.getElem?_map, List.getElem?_range hji]; rfl))))
        · obtain rfl : j = i := by omega
          rw [List.getElem?_append_right (by omega), show j - ts.length = 0 by omega] at hc
          obtain rfl : t = c := Option.some.inj hc
          exact st_of (e5 _ _ ht4)
    · obtain ⟨j, hji, hj⟩ : ∃ j, j < i ∧ MdAt cs form j = MdAt cs form i := by
        have : (((List.range i).map (MdAt cs form)).any fun z => decide (z = MdAt cs form i)) = true := by
          cases z : (((List.range i).map (MdAt cs form)).any fun z => decide (z = MdAt cs form i)) with
          | true => rfl
          | false => rw [z] at hb; cases hb
        obtain ⟨z, hz, hzz⟩ := List.any_eq_true.mp this
        obtain ⟨j, hj, rfl⟩ := List.mem_map.mp hz
        exact ⟨j, List.mem_range.mp hj, of_decide_eq_true hzz⟩
      have cycM : Cyc (MdAt cs form) i j := ⟨hji, hj.symm, dis⟩
      have cyc : Cyc (RowsAt cs form) i j := cycM.to fun a b => (rows a b).symm
      have hse3 := hse.mono e3
      have ix : ∀ H4, Ex H3 H4 → Ev (tBM K "list" (rIndexD K) (tVar 3) (tCons (tVar 2) tNil)) [some (.ref l), some (.str form), some (.ref t), some (.ref s), o4, o5] H4 (.int (j : Nat)) := fun H4 e4 => ev_index (r := MdAt cs form i) (rows := (List.range i).map (MdAt cs form)) (ev_var rfl) (ev_var rfl) (st_of (e4 _ _ (e3 _ _ ht))) (hse3.mono e4) (by rw [List.getElem?_map, List.getElem?_range hji, ← hj]; rfl) fun m hm z => by
        rw [List.getElem?_map, List.getElem?_range (by omega)] at z
        exact dis m j hm hji ((Option.some.inj z).trans hj.symm)
      obtain ⟨ts, hl, hlen, _⟩ := id hse3
      exact s_retU (xs := [.int (j : Nat), .int ((i - j : Nat) : Int)]) (eu_tup (ea_cons (ix _ (Ex.refl _)) (ea_cons (ev_is (ev_op (ev_lenS (K := K) (ev_var rfl) (sq_of hl)) (ix _ (Ex.refl _)) rv_I0) (by rw [List.length_map, hlen, List.length_map, List.length_range]; congr 1; omega)) ea_nil)) (by show 2 ≤ 100000; decide)) fun t' H5 ht' e5 h5 => k t' i j H5 cyc (fresh_back (e.trans e3) ht') ((e.trans e3).trans e5) h5
end
end KX
set_option Elab.async false
set_option linter.all false
set_option maxRecDepth 100000
set_option maxHeartbeats 4000000
namespace KX
open PySem PySem.Spec PyProof.Rows L2 Evl
local macro_rules | `(tactic| walk_at "ev") => `(tactic| repeat' (first | exact ev_c | exact ev_var rfl | exact rv_I0 | refine' rv_I ?_ | refine' rv_eq ?_ | refine' rv_ne ?_ | refine' ev_op ?_ ?_ ?_ | exact ea_nil | refine' ea_cons ?_ ?_ | refine' et_test ?_ | refine' et_B ?_ | refine' et_not ?_ | refine' ev_notV ?_))

open PySem
def gC1 (us ws : List V) : List V := match us, ws with | [x], [f] => [x, f] | _, _ => []
def gC1v (us ws : List Value) : List Value := match us, ws with | [x], [f] => [x, f] | _, _ => []
def gS1 (us ws : List V) : List V := match us, ws with | [], [m] => [m] | _, _ => []
def gS1v (us ws : List Value) : List Value := match us, ws with | [], [m] => [m] | _, _ => []
theorem kb_cycle {w : World} {K : PySem.W.Frag} {mg : Str → Option Value} {a : Ads} (T : Txt w K mg a) : KBinds K a.d_Change_cycle ["self", "form"] ["form"] gC1v gC1 where
  to := fun s us ws X hl => by
    obtain ⟨oc, od, kV, doc, pm, an, cdv, ct, osl, e, lk, hcd⟩ := T.fn_Change_cycle.ex
    rw [e]
    match us, ws, hl with
    | [x], [f], _ => exact .of_eq rfl
  rel := fun {vs us zs ws} r1 r2 => by
    cases r1 with
    | nil => exact .nil
    | cons h1 t1 =>
      cases t1 with
      | cons _ _ => exact .nil
      | nil =>
        cases r2 with
        | nil => exact .nil
        | cons h2 t2 =>
          cases t2 with
          | nil => exact .cons h1 (.cons h2 .nil)
          | cons _ _ => exact .nil
theorem kb_setting {w : World} {K : PySem.W.Frag} {mg : Str → Option Value} {a : Ads} (T : Txt w K mg a) : KBinds K a.d_Change_setting ["mode"] ["mode"] gS1v gS1 where
  to := fun s us ws X hl => by
    obtain ⟨oc, od, kV, doc, pm, an, cdv, ct, osl, e, lk, hcd⟩ := T.fn_Change_setting.ex
    rw [e]
    match us, ws, hl with
    | [], [m], _ => exact .of_eq rfl
  rel := fun {vs us zs ws} r1 r2 => by
    cases r1 with
    | cons _ _ => exact .nil
    | nil =>
      cases r2 with
      | nil => exact .nil
      | cons h2 t2 =>
        cases t2 with
        | nil => exact .cons h2 .nil
        | cons _ _ => exact .nil
/-- a change, old or new -/
def EvO2 (K : PySem.W.Frag) (a : Ads) (te : TE) (σ : L2.St) (H : Hp) (cs : List Cl) : Prop := ∀ H1, Ex H H1 → ∀ Q : VK, (∀ p H2, Ex H1 H2 → ChangeAt K a H2 p cs → Q (.ref p) H2) → te σ H1 Q
theorem pair_show {x y : Nat} (hx : x ≤ 1000) (hy : y ≤ 1000) : (tupD [x, y]).showable = true ∧ (tupD [x, y]).hasDict = false ∧ (tupD [x, y]).depth ≤ 60 ∧ (tupD [x, y]).shown.length ≤ sizeLine := by
  have l : ∀ n, n ≤ 1000 → n.log2 < 1920 := fun n h => by
    have : n < 2 ^ 10 := Nat.lt_of_le_of_lt h (by decide)
    by_cases hn : n = 0
    · subst hn; decide
    · have := (Nat.log2_lt hn).mpr this
      omega
  have s : ∀ n, n < 1001 → (PyData.shown (.int (n : Nat))).length ≤ 8 ∧ (PyData.int (n : Nat)).weight ≤ 10 := by
    have h : ((List.range 1001).all fun (n : Nat) => decide ((PyData.shown (.int (n : Nat))).length ≤ 8 ∧ (PyData.int (n : Nat)).weight ≤ 10)) = true := by decide +kernel
    exact fun n hn => of_decide_eq_true (all_nat h n hn)
  have sx := s x (by omega)
  have sy := s y (by omega)
  refine ⟨?_, ?_, ?_, ?_⟩
  · simp [tupD, PyData.showable, PyData.showableAll, l x hx, l y hy]
  · simp [tupD, PyData.hasDict, PyData.hasDictAll]
  · simp [tupD, PyData.depth, PyData.depthAll]
  · refine PyData.shown_fits (B := 8) (by decide) (by decide) ?_ ?_
    · simp [tupD, PyData.leavesShort, PyData.leavesShortAll, sx.1, sy.1]
    · have a := sx.2
      have b := sy.2
      simp only [tupD, List.map_cons, List.map_nil, PyData.weight, PyData.weightAll] at a b ⊢
      have : (2 : Nat) ^ 20 = 1048576 := by decide
      omega
section
variable {X : Cx} {K : PySem.W.Frag} {a : Ads} {σ : L2.St} {H H' : Hp} {ta tb te tx tf tm tn tg t1 t2 : TE} {t tk u : TT} {x y z v : V} {r : R2} {D : Ends} {tz tu : TS} {E : XK} {cs : List Cl} {p q m : Addr} {form : Str} {n N j : Nat}
theorem eo_var {i : Nat} (h : σ[i]? = some (some (.ref p))) (ch : ChangeAt K a H p cs) : EvO2 K a (tVar i) σ H cs := fun H1 e Q q => ⟨.ref p, h, q p H1 (Ex.refl H1) (ch.mono e)⟩
theorem EvCh.old (h : EvCh K a te σ H cs) : EvO2 K a te σ H cs := fun H1 e Q q => h H1 e Q fun p H2 _ e2 c => q p H2 e2 c
theorem lookup_cycle (ct tt : Addr) : (putF "_tables" (V.ref tt) (putF "_clauses" (V.ref ct) [])).lookup ("cycle" : Str) = none := by
  rw [lookup_putF, if_neg (by decide +kernel), lookup_putF, if_neg (by decide +kernel)]
  rfl
theorem eu_cycle (h : EvO2 K a te σ H cs) (hf : Ev tf σ H (.str form)) (ok : ∀ c ∈ cs, clOk c) (fm : form ∈ forms) (cyc : Cyc (RowsAt cs form) N j) : EvU (tMeth a.f_Change "cycle" (spCycle K a) [] E te (tCons tf tNil)) σ H (numV [j, N - j]) := fun H1 e Q q =>
  h H1 e _ fun p H2 e2 ch => by
    obtain ⟨dx, ct, tt, ps, ho, _⟩ := id ch
    refine ⟨p, dx, _, rfl, ho, lookup_cycle ct tt, hf H2 (e.trans e2) _ fun H3 e3 => ⟨p, cs, form, rfl, ch.mono e3, ok, fm, fun t N' j' H4 cyc' ht e4 h4 => ?_⟩⟩
    obtain ⟨rfl, rfl⟩ := cyc.one cyc'
    exact q t H4 (fresh_back (e2.trans e3) ht) ((e2.trans e3).trans e4) h4
theorem eu_cycleK (h : EvO2 K a te σ H cs) (hf : Ev tf σ H (.str form)) (ok : ∀ c ∈ cs, clOk c) (fm : form ∈ forms) (cyc : Cyc (RowsAt cs form) N j) : EvU (tMethK a.f_Change "cycle" (spCycle K a) gC1 E te (tCons tf tNil)) σ H (numV [j, N - j]) := fun H1 e Q q =>
  h H1 e _ fun p H2 e2 ch => by
    obtain ⟨dx, ct, tt, ps, ho, _⟩ := id ch
    refine ⟨p, dx, _, rfl, ho, lookup_cycle ct tt, hf H2 (e.trans e2) _ fun H3 e3 => ⟨p, cs, form, rfl, ch.mono e3, ok, fm, fun t N' j' H4 cyc' ht e4 h4 => ?_⟩⟩
    obtain ⟨rfl, rfl⟩ := cyc.one cyc'
    exact q t H4 (fresh_back (e2.trans e3) ht) ((e2.trans e3).trans e4) h4
theorem ev_reprU {x y : Nat} (h : EvU te σ H (numV [x, y])) (hx : x ≤ 1000) (hy : y ≤ 1000) : Ev (tCB (rRepr K) (tCons te tNil)) σ H (.str (tupD [x, y]).shown) := fun H1 e Q q => h H1 e _ fun p H2 _ e2 h2 => by
  obtain ⟨s1, s2, s3, s4⟩ := pair_show hx hy
  exact ⟨p, tupD [x, y], rfl, dp_tupN (st_of h2), s1, s2, s3, s4, q H2 e2⟩
theorem ev_neUU {b c : List Nat} (h1 : EvU ta σ H (numV b)) (h2 : EvU tb σ H (numV c)) : Ev (tOp (rNeD K) ta tb) σ H (.bl (!decide (b = c))) := ev_opUU h1 h2 fun p q H1 hp hq _ H2 e2 Q k => ⟨tupD b, tupD c, dp_tupN (st_of (e2 _ _ hp)), dp_tupN (st_of (e2 _ _ hq)), shaped_tup b, shaped_tup c, by rw [eqv_tup]; exact k H2 (Ex.refl H2)⟩
theorem ev_eqUU {b c : List Nat} (h1 : EvU ta σ H (numV b)) (h2 : EvU tb σ H (numV c)) : Ev (tOp (rEqD K) ta tb) σ H (.bl (decide (b = c))) := ev_opUU h1 h2 fun p q H1 hp hq _ H2 e2 Q k => ⟨tupD b, tupD c, dp_tupN (st_of (e2 _ _ hp)), dp_tupN (st_of (e2 _ _ hq)), shaped_tup b, shaped_tup c, by rw [eqv_tup]; exact k H2 (Ex.refl H2)⟩
theorem eu_pair {x y : Nat} (h1 : Ev t1 σ H (.int (x : Nat))) (h2 : Ev t2 σ H (.int (y : Nat))) : EvU (tTup (tCons t1 (tCons t2 tNil))) σ H (numV [x, y]) := eu_tup (ea_cons h1 (ea_cons h2 ea_nil)) (by show 2 ≤ 100000; decide)
theorem em_chOV (hf : Ev tf σ H (.ref p)) (hm : Ev tm σ H (.ref m)) (hmm : ModeAt a H m n) (hg : Ev tg σ H (.str form)) (ch : ChangeAt K a H p cs) (ok : ∀ c ∈ cs, clOk c) (fm : form ∈ forms) (hn : n < 512) :
    EvM a (StX.tCallO X a.f_Change (fun vs H Q E => spChCall K a (vs ++ []) H Q E) E tf (tCons tm (tCons tg tNil))) σ H (foldN cs n form) := fun H1 e Q q =>
  hf H1 e _ fun H2 e2 => ⟨p, rfl, hm H2 (e.trans e2) _ fun H3 e3 => hg H3 ((e.trans e2).trans e3) _ fun H4 e4 => by
    have c4 := ch.mono (((e.trans e2).trans e3).trans e4)
    obtain ⟨dx, ct, tt, ps, ho, _⟩ := id c4
    exact ⟨.inr ⟨dx, _, ho⟩, p, .ref m, n, cs, form, rfl, c4, ok, fm, hn, .inr ⟨m, rfl, hmm.mono (((e.trans e2).trans e3).trans e4)⟩, fun q' H5 hq e5 m5 => q q' H5 (fresh_back ((e2.trans e3).trans e4) hq) (((e2.trans e3).trans e4).trans e5) m5⟩⟩
theorem q_asgM {i : Nat} (h : EvM a te σ H n) (k : ∀ m H1, Ex H H1 → ModeAt a H1 m n → tz D (σ.set i (some (.ref m))) H1) : tSeq (tAsg te (gName i)) tz D σ H := h H (Ex.refl H) _ fun m H1 _ e hm => k m H1 e hm
theorem s_asgM {i : Nat} (h : EvM a te σ H n) (k : ∀ m H1, Ex H H1 → ModeAt a H1 m n → D.nx (σ.set i (some (.ref m))) H1) : tAsg te (gName i) D σ H := h H (Ex.refl H) _ fun m H1 _ e hm => k m H1 e hm
theorem q_asgCh {i : Nat} (h : EvCh K a te σ H cs) (k : ∀ c H1, Ex H H1 → ChangeAt K a H1 c cs → tz D (σ.set i (some (.ref c))) H1) : tSeq (tAsg te (gName i)) tz D σ H := h H (Ex.refl H) _ fun c H1 _ e hc => k c H1 e hc
theorem ech_setM (h : EvM a te σ H n) (hn : n < 512) : EvCh K a (tSMeth a.f_Change (fun vs H Q E => spSetting K a (vs ++ []) H Q E) E (tC (.ref a.f_Change)) (tCons te tNil)) σ H (setC n) := fun H1 e Q q =>
  ⟨rfl, h H1 e _ fun m H2 _ e2 hm => ⟨.ref m, n, rfl, hn, .inr ⟨m, rfl, hm⟩, fun q' H3 hq e3 c => q q' H3 (fresh_back e2 hq) (e2.trans e3) c⟩⟩
theorem ech_setK (h : Ev te σ H (.int (n : Nat))) (hn : n < 512) : EvCh K a (tSMethK a.f_Change (spSetting K a) gS1 E (tC (.ref a.f_Change)) (tCons te tNil)) σ H (setC n) := fun H1 e Q q =>
  ⟨rfl, h H1 e _ fun H2 e2 => ⟨.int (n : Nat), n, rfl, hn, .inl rfl, fun q' H3 hq e3 c => q q' H3 (fresh_back e2 hq) (e2.trans e3) c⟩⟩
theorem ech_read {s : Str} (hs : Txt.split s "," = cs.map clText) (hl : s.length ≤ 1000) (ok : ∀ c ∈ cs, clOk c) (h0 : 0 < cs.length) (h5 : cs.length ≤ 5) : EvCh K a (ClX.tCMeth a.f_Change (fun vs H Q E => spCRead K a (vs ++ []) H Q E) E (tC (.ref a.f_Change)) (tCons (tC (.str s)) tNil)) σ H cs := fun H1 e Q q =>
  ⟨rfl, s, cs, rfl, hs, hl, ok, h0, h5, fun p H2 hp e2 c => q p H2 hp e2 c⟩
theorem ev_opCh1 (ha : EvCh K a ta σ H cs) (hb : ∀ H1, Ex H H1 → Ev tb σ H1 y) (hr : ∀ p H1, ChangeAt K a H1 p cs → Ex H H1 → RV r (.ref p) y H1 z) : Ev (tOp r ta tb) σ H z := fun H1 e Q q =>
  ha H1 e _ fun p H2 _ e2 h2 => hb H2 (e.trans e2) H2 (Ex.refl _) _ fun H3 e3 => hr p H3 (h2.mono e3) ((e.trans e2).trans e3) H3 (Ex.refl _) _ fun H4 e4 => q H4 ((e2.trans e3).trans e4)
theorem rv_sameCh (h1 : ChangeAt K a H p cs) (h2 : ChangeAt K a H q cs) : RV (rEqG (DIns a.f_Change (SameCh K a))) (.ref p) (.ref q) H (.bl true) := by
  obtain ⟨dx, _, _, _, o1, _⟩ := id h1
  obtain ⟨dy, _, _, _, o2, _⟩ := id h2
  exact rv_eqG (mon_ins (R := SameCh K a) fun _ _ _ _ e h => sameCh_mono e h) ⟨p, q, dx, dy, _, _, rfl, rfl, o1, o2, cs, h1, h2⟩
/-- an or whose left side moves the pen at p -/
theorem s_penOr {i k : Nat} (hn : σ[i]? = some (some (.int (n : Nat)))) (h : ∀ Q : VK, (∀ H2, ExP p H H2 → PenAt H2 p k → Q (.int (n : Nat)) H2) → te σ H Q) (hu : ∀ H2, ExP p H H2 → EvT u σ H2 false)
    (kk : ∀ H3, ExP p H H3 → PenAt H3 p k → D.nx σ H3) : tIfS (tOr (tTest (tOp rNe te (tVar i))) u) tu tNext D σ H :=
  h _ fun H2 e2 pen => ⟨.int (n : Nat), hn, rfl, !decide (V.int (n : Nat) = V.int (n : Nat)), rfl, by
    rw [decide_eq_true rfl]
    exact hu H2 e2 H2 (Ex.refl H2) _ fun H3 e3 => kk H3 (e2.trans (ExP.of e3)) (pen.keep e3)⟩
end
theorem set_text : ∀ d0 : Nat, d0 < 8 → ∀ d1 : Nat, d1 < 8 → ∀ d2 : Nat, d2 < 8 → ("u=" : Str) ++ letN d0 ++ (",g=" : Str) ++ letN d1 ++ (",o=" : Str) ++ letN d2 = Txt.join "," [clText ("u", "=", letN d0), clText ("g", "=", letN d1), clText ("o", "=", letN d2)] := by
  have h : ((List.range 8).all fun (d0 : Nat) => (List.range 8).all fun (d1 : Nat) => (List.range 8).all fun (d2 : Nat) => decide (("u=" : Str) ++ letN d0 ++ (",g=" : Str) ++ letN d1 ++ (",o=" : Str) ++ letN d2 = Txt.join "," [clText ("u", "=", letN d0), clText ("g", "=", letN d1), clText ("o", "=", letN d2)])) = true := by decide +kernel
  exact fun d0 h0 d1 h1 d2 h2 => of_decide_eq_true (all_nat (all_nat (all_nat h d0 h0) d1 h1) d2 h2)
theorem let_len : ∀ d : Nat, d < 8 → (letN d).length ≤ 3 := by
  have h : ((List.range 8).all fun (d : Nat) => decide ((letN d).length ≤ 3)) = true := by decide +kernel
  exact fun d hd => of_decide_eq_true (all_nat h d hd)
theorem len_app (x y : Str) : (x ++ y).length = x.length + y.length := by
  show (x.cps ++ y.cps).size = _
  rw [Array.size_append]
  rfl
theorem cyc_far {cs : List Cl} {form : Str} (ok : ∀ c ∈ cs, clOk c) (hf : form ∈ forms) {N j : Nat} (c : Cyc (RowsAt cs form) N j) (d : Nat) {n : Nat} (hn : n < 512) : itD cs form (j + d + (N - j)) n = itD cs form (j + d) n := by
  refine same_modes ok hf hn (rows_eq.mpr fun p hp => ?_)
  have e := rows_eq.mp c.eq p hp
  have lt := c.lt
  rw [show j + d + (N - j) = N + d by omega, itN_add, itN_add, itN_add, itN_add, itN_add, itN_add, e.1, e.2.1, e.2.2]
  exact ⟨rfl, rfl, rfl⟩
end KX
set_option Elab.async false
set_option linter.all false
set_option maxRecDepth 100000
set_option maxHeartbeats 4000000
namespace KX
open PySem PySem.Spec PyProof.Rows L2 Evl
local macro_rules | `(tactic| walk_at "ev") => `(tactic| repeat' (first | exact ev_c | exact ev_var rfl | exact rv_I0 | refine' rv_I ?_ | refine' rv_eq ?_ | refine' rv_ne ?_ | refine' ev_op ?_ ?_ ?_ | exact ea_nil | refine' ea_cons ?_ ?_ | refine' et_test ?_ | refine' et_B ?_ | refine' et_not ?_ | refine' ev_notV ?_))

open PySem
def spLaw (K : PySem.W.Frag) : Sp := fun vs H Q _ => ∃ (s : Addr) (ns : List Int), vs = [.ref s] ∧ SqL K H s (ns.map V.int) ∧ ns.length ≤ 63 ∧ ∀ H', Q (.bl true) H'
theorem join_le (y : Str) : ∀ ys : List Str, (Str.join y ys).length ≤ (ys.map (·.length)).sum + ys.length * y.length
  | [] => Nat.zero_le _
  | [x] => by
    show x.length ≤ _
    simp
  | x :: z :: r => by
    have := join_le y (z :: r)
    have e : (Str.join y (x :: z :: r)).length = x.length + y.length + (Str.join y (z :: r)).length := by
      show (x ++ y ++ Str.join y (z :: r)).length = _
      rw [len_app, len_app]
    rw [e]
    simp only [List.map_cons, List.sum_cons, List.length_cons] at this ⊢
    have m : (r.length + 1 + 1) * y.length = (r.length + 1) * y.length + y.length := Nat.succ_mul _ _
    rw [m]
    omega
theorem text_len {cs : List Cl} (ok : ∀ c ∈ cs, clOk c) (most : cs.length ≤ 4) : (Txt.join "," (cs.map clText)).length ≤ 1000 := by
  rw [TL.join_eq]
  have h := join_le "," (cs.map clText)
  have sum : ∀ ds : List Cl, (∀ c ∈ ds, clOk c) → ((ds.map clText).map (·.length)).sum ≤ ds.length * 100 := by
    intro ds
    induction ds with
    | nil => intro _; exact Nat.le_refl 0
    | cons c ds ih =>
      intro h
      have := ih fun d m => h d (List.mem_cons_of_mem _ m)
      have := clText_len (h c (List.mem_cons_self ..))
      simp only [List.map_cons, List.sum_cons, List.length_cons]
      omega
  have := sum cs ok
  rw [List.length_map, show ("," : Str).length = 1 by decide +kernel] at h
  omega
section
variable {P : Program} {w : World} {K : PySem.W.Frag} {mg : Str → Option Value} {base : Heap} {a : Ads}
theorem ok_law (T : Txt w K mg a) : RunAt P w K mg base callerA a.f_law a.d_law ["_law_script"] (spLaw K) := by
  have G__law_pen : FnOk P w K mg base CX0 9 _ _ _ _ := (ok_pen T).mono (by decide)
  have G__law_change : FnOk P w K mg base CX0 9 _ _ _ _ := (ok_lchange T).mono (by decide)
  have G__law_change_text : FnOk P w K mg base CX0 9 _ _ _ _ := (ok_change_text T).mono (by decide)
  have G__law_mode : FnOk P w K mg base CX0 9 _ _ _ _ := (ok_lmode T).mono (by decide)
  have G__law_draw : FnOk P w K mg base CX0 9 _ _ _ _ := (ok_draw T).mono (by decide)
  have G__law_cycle : FnOk P w K mg base CX0 9 _ _ _ _ := (ok_lcycle T).mono (by decide)
  have G__law_times : FnOk P w K mg base CX0 9 _ _ _ _ := (ok_times T).mono (by decide)
  have G__law_letters : FnOk P w K mg base CX0 9 _ _ _ _ := (ok_lletters T).mono (by decide)
  have G_Change_read : FnOk P w K mg base CX0 9 _ _ _ _ := (ok_Change_read T).mono (by decide)
  have G_Change_cycle : FnOk P w K mg base CX0 9 _ _ _ _ := (ok_cycle T).mono (by decide)
  have G_Change_setting : FnOk P w K mg base CX0 9 _ _ _ _ := (ok_setting T).mono (by decide)
  have G_Change_eq : FnOk P w K mg base CX0 9 _ _ _ _ := (ok_Change_eq T).mono (by decide)
  have G_ChangeD_strD : FnOk P w K mg base CX0 7 _ _ _ _ := (ok_Change_str T).mono (by decide)
  have G_ChangeD_callD : FnOk P w K mg base CX0 9 _ _ _ _ := (ok_Change_call T).mono (by decide)
  have G_Mode_init : FnOk P w K mg base CX0 8 _ _ _ _ := (ok_Mode_init T).mono (by decide)
  have G_Mode_number : FnOk P w K mg base CX0 8 _ _ _ _ := (ok_Mode_number T).mono (by decide)
  refine Fun.runAt (k := 9) T.fn_law sc_law ⟨rfl, by decide, by decide⟩ (fun vs H Q E h => ?_) (fun cdv outer s H vs Q E hr h => ?_)
  · obtain ⟨_, _, rfl, _⟩ := h
    rfl
  · obtain ⟨sc, ns, rfl, hs, hl, k⟩ := h
    have hrc : Room 9 _ := hr
    have hrm : Room (8 + 1) _ := hr
    have hrs : Room (7 + 2) _ := hr
    refine ⟨_, (pss_cons (ps_set (i := 1) sc_law.nd rfl (Or.inl rfl) (pe_call G__law_pen hrc rfl T.mg__law_pen T.fn__law_pen.kp (bd__law_pen T) .nil pass0 (pa_cons (pv 0) pa_nil)))
    (pss_cons (ps_for PassesOwn.never rfl (pi_range1 rfl T.b_range (pa_cons pe_int pa_nil)) (pg_name (i := 2) sc_law.nd rfl (Or.inl rfl)) (pss_cons (ps_par (i := 3) (j := 4) rfl sc_law.nd rfl rfl (by decide) rfl rfl (pa_cons (pe_call G__law_change hrc rfl T.mg__law_change T.fn__law_change.kp (bd__law_change T) .nil pass0 (pa_cons (pv 1) (pa_cons pe_int pa_nil))) (pa_cons (pe_call G__law_mode hrc rfl T.mg__law_mode T.fn__law_mode.kp (bd__law_mode T) .nil pass0 (pa_cons (pv 1) pa_nil)) pa_nil)) (by rfl))
    (pss_cons (ps_set (i := 5) sc_law.nd rfl (Or.inl rfl) (ClX.pe_cmeth (pe_glob (v := .ref a.f_Change) rfl T.mg_Change rfl) T.r_Change T.m_Change_read (G_Change_read.raw (bd_Change_read T) .nil) hrc pass0 (pa_cons (pe_call G__law_change_text hrc rfl T.mg__law_change_text T.fn__law_change_text.kp (bd__law_change_text T) .nil pass0 (pa_cons (pv 3) pa_nil)) pa_nil)))
    (pss_cons (ps_for PassesOwn.never rfl (pi_tup (pe_tup (pa_cons pe_str (pa_cons pe_str pa_nil)))) (pg_name (i := 6) sc_law.nd rfl (Or.inl rfl)) (pss_cons (ps_asg (pe_call G__law_cycle hrc rfl T.mg__law_cycle T.fn__law_cycle.kp (bd__law_cycle T) .nil pass0 (pa_cons (pv 3) (pa_cons (pv 6) pa_nil))) (pg_tup rfl (pgs_cons (pg_name (i := 7) sc_law.nd rfl (Or.inl rfl)) (pgs_cons (pg_name (i := 8) sc_law.nd rfl (Or.inl rfl)) pgs_nil))))
    (pss_cons (ps_if (PW.pt (pw_or (pt_cmpR op_ne (pe_callB (call_reprD rfl hr.units) (by rfl) T.b_repr (by decide +kernel) (pa_cons (pe_meth (pv 5) T.c_Change T.m_Change_cycle G_Change_cycle hrc (bd_Change_cycle T) .nil pass0 (pa_cons (pv 6) pa_nil)) pa_nil)) (pe_callB (call_reprD rfl hr.units) (by rfl) T.b_repr (by decide +kernel) (pa_cons (pe_tup (pa_cons (pv 7) (pa_cons (pv 8) pa_nil))) pa_nil)) (nomark _)) (pw_or1 (pt_cmpR (op_neD hr.units) (pe_methK (pv 5) T.c_Change T.m_Change_cycle G_Change_cycle hrc (kb_cycle T) pass0 (pk_cons (pv 6) pk_nil)) (pe_tup (pa_cons (pv 7) (pa_cons (pv 8) pa_nil))) (nomark _))))) (pss_one (ps_ret pe_bl)) pss_nil)
    (pss_cons (ps_set (i := 9) sc_law.nd rfl (Or.inl rfl) (pe_op op_add (pv 7) (pe_call G__law_draw hrc rfl T.mg__law_draw T.fn__law_draw.kp (bd__law_draw T) .nil pass0 (pa_cons (pv 1) (pa_cons pe_int pa_nil)))))
    (pss_cons (ps_set (i := 10) sc_law.nd rfl (Or.inl rfl) (pe_make T.mk_Mode G_Mode_init hrm rfl T.mg_Mode (bd_ModeD_initD T) .nil pass0 (pa_cons (pv 4) pa_nil)))
    (pss_cons (ps_for PassesOwn.never rfl (pi_range1 rfl T.b_range (pa_cons (pv 9) pa_nil)) (pg_name (i := 11) sc_law.nd rfl (Or.inl rfl)) (pss_one (ps_set (i := 10) sc_law.nd rfl (Or.inl rfl) (StX.pe_callO (pv 5) T.o_Change (G_ChangeD_callD.raw (bd_ChangeD_callD T) .nil) hrc pass0 (pa_cons (pv 10) (pa_cons (pv 6) pa_nil))))))
    (pss_cons (ps_set (i := 12) sc_law.nd rfl (Or.inl rfl) (pe_prop (pv 10) T.c_Mode T.p_Mode_number (G_Mode_number) hrm (bd_Mode_number T) .nil pass0 rfl))
    (pss_cons (ps_for PassesOwn.never rfl (pi_range1 rfl T.b_range (pa_cons (pv 8) pa_nil)) (pg_name (i := 11) sc_law.nd rfl (Or.inl rfl)) (pss_one (ps_set (i := 10) sc_law.nd rfl (Or.inl rfl) (StX.pe_callO (pv 5) T.o_Change (G_ChangeD_callD.raw (bd_ChangeD_callD T) .nil) hrc pass0 (pa_cons (pv 10) (pa_cons (pv 6) pa_nil))))))
    (pss_one (ps_if (PW.pt (pw_or (pt_cmpR op_ne (pe_prop (pv 10) T.c_Mode T.p_Mode_number (G_Mode_number) hrm (bd_Mode_number T) .nil pass0 rfl) (pv 12) (nomark _)) (pw_or1 (pt_cmpR op_ne (pv 12) (pe_call G__law_times hrc rfl T.mg__law_times T.fn__law_times.kp (bd__law_times T) .nil pass0 (pa_cons (pv 3) (pa_cons (pv 4) (pa_cons (pv 6) (pa_cons (pv 9) pa_nil))))) (nomark _))))) (pss_one (ps_ret pe_bl)) pss_nil))))))))))
    (pss_cons (ps_set (i := 13) sc_law.nd rfl (Or.inl rfl) (pe_smeth (pe_glob (v := .ref a.f_Change) rfl T.mg_Change rfl) T.r_Change T.m_Change_setting (G_Change_setting.raw (bd_Change_setting T) .nil) hrc pass0 (pa_cons (pe_make T.mk_Mode G_Mode_init hrm rfl T.mg_Mode (bd_ModeD_initD T) .nil pass0 (pa_cons (pv 4) pa_nil)) pa_nil)))
    (pss_cons (ps_set (i := 14) sc_law.nd rfl (Or.inl rfl) (pe_op op_add_str (pe_op op_add_str (pe_op op_add_str pe_str (pe_call G__law_letters hrc rfl T.mg__law_letters T.fn__law_letters.kp (bd__law_letters T) .nil pass0 (pa_cons (pe_op op_shr (pv 4) pe_int) pa_nil))) pe_str) (pe_call G__law_letters hrc rfl T.mg__law_letters T.fn__law_letters.kp (bd__law_letters T) .nil pass0 (pa_cons (pe_op op_and (pe_op op_shr (pv 4) pe_int) pe_int) pa_nil))))
    (pss_cons (ps_if (PW.pt (pw_or (pt_cmpR op_ne (pe_callTy (call_strOwn T.m_ChangeD_strD.at_ T.m_ChangeD_strD.fn (G_ChangeD_strD.raw (bd_ChangeD_strD T) .nil) hrs pass0) (by rfl) T.b_str (by decide +kernel) (pa_cons (pv 13) pa_nil)) (pe_op op_add_str (pe_op op_add_str (pv 14) pe_str) (pe_call G__law_letters hrc rfl T.mg__law_letters T.fn__law_letters.kp (bd__law_letters T) .nil pass0 (pa_cons (pe_op op_and (pv 4) pe_int) pa_nil))) (nomark _)) (pw_or1 (pt_not (pt_cmpR (op_eqG (rcG_ins (R := SameCh K a) G_Change_eq T.m_ChangeD_eqD.at_ T.m_ChangeD_eqD.fn (bd_ChangeD_eqD T) pass0) hrc) (pe_smethK (pe_glob (v := .ref a.f_Change) rfl T.mg_Change rfl) T.r_Change T.m_Change_setting G_Change_setting hrc (kb_setting T) pass0 (pk_cons (pv 4) pk_nil)) (pv 13) (nomark _)))))) (pss_one (ps_ret pe_bl)) pss_nil)
    (pss_one (ps_for PassesOwn.never rfl (pi_tup (pe_tup (pa_cons pe_str (pa_cons pe_str pa_nil)))) (pg_name (i := 6) sc_law.nd rfl (Or.inl rfl)) (pss_one (ps_if (PW.pt (pw_or (pt_cmpR op_ne (pe_prop (StX.pe_callO (pv 13) T.o_Change (G_ChangeD_callD.raw (bd_ChangeD_callD T) .nil) hrc pass0 (pa_cons (pe_call G__law_mode hrc rfl T.mg__law_mode T.fn__law_mode.kp (bd__law_mode T) .nil pass0 (pa_cons (pv 1) pa_nil)) (pa_cons (pv 6) pa_nil))) T.c_Mode T.p_Mode_number (G_Mode_number) hrm (bd_Mode_number T) .nil pass0 rfl) (pv 4) (nomark _)) (pw_or1 (pt_cmpR (op_neD hr.units) (pe_meth (pv 13) T.c_Change T.m_Change_cycle G_Change_cycle hrc (bd_Change_cycle T) .nil pass0 (pa_cons (pv 6) pa_nil)) (pe_tup (pa_cons pe_int (pa_cons pe_int pa_nil))) (nomark _))))) (pss_one (ps_ret pe_bl)) pss_nil)))))))))))
    (pss_one (ps_ret (pe_and (pe_cmpR (op_eqD hr.units) (pe_meth (ClX.pe_cmeth (pe_glob (v := .ref a.f_Change) rfl T.mg_Change rfl) T.r_Change T.m_Change_read (G_Change_read.raw (bd_Change_read T) .nil) hrc pass0 (pa_cons pe_str pa_nil)) T.c_Change T.m_Change_cycle G_Change_cycle hrc (bd_Change_cycle T) .nil pass0 (pa_cons pe_str pa_nil)) (pe_tup (pa_cons pe_int (pa_cons pe_int pa_nil))) (nomark _)) (pe_one (pe_cmpR (op_eqD hr.units) (pe_meth (ClX.pe_cmeth (pe_glob (v := .ref a.f_Change) rfl T.mg_Change rfl) T.r_Change T.m_Change_read (G_Change_read.raw (bd_Change_read T) .nil) hrc pass0 (pa_cons pe_str pa_nil)) T.c_Change T.m_Change_cycle G_Change_cycle hrc (bd_Change_cycle T) .nil pass0 (pa_cons pe_str pa_nil)) (pe_tup (pa_cons pe_int (pa_cons pe_int pa_nil))) (nomark _)))))))), ?_⟩
    refine ⟨.ref sc, rfl, sc, ns, rfl, hs, hl, fun p H1 hp e1 pen => ?_⟩
    refine q_forR1 (n := 8) (ea_cons ev_c ea_nil) (by decide) (fun i σ' H' => ∃ o2 o3 o4 o5 o6 o7 o8 o9 o10 o11 o12 o13 o14, σ' = [some (.ref sc), some (.ref p), o2, o3, o4, o5, o6, o7, o8, o9, o10, o11, o12, o13, o14] ∧ PenAt H' p (27 * i)) (fun H2 e2 => ⟨_, _, _, _, _, _, _, _, _, _, _, _, _, rfl, pen.keep e2⟩) (fun i σ' H2 hi q => ?_) (fun σ' H2 q => ?_)
    · obtain ⟨o2, o3, o4, o5, o6, o7, o8, o9, o10, o11, o12, o13, o14, rfl, pen2⟩ := q
      have hi8 : i < 8 := by omega
      refine ⟨.ref p, rfl, p, 27 * i, rfl, pen2, by omega, fun l cs H3 pos most ok lp e3 pen3 told => ?_⟩
      refine ⟨.ref p, rfl, p, 27 * i + 13, rfl, pen3, by omega, fun n H4 hn e4 pen4 => ⟨_, _, rfl, ?_⟩⟩
      obtain ⟨zl, zns, zat, zrest, zp, _⟩ := id pen3
      have told4 := told.grow e4.ex zp lp
      have bound : (Txt.join "," (cs.map clText)).length ≤ 1000 := text_len ok most
      refine ⟨rfl, .ref l, rfl, l, cs, rfl, told4, ok, by omega, fun H5 e5 => ⟨_, cs, rfl, split_text ok pos, bound, ok, pos, by omega, fun ch H6 _ e6 hch => ?_⟩⟩
      have e46 : Ex H4 H6 := e5.trans e6
      have pen6 : PenAt H6 p (27 * i + 17) := (pen4.keep e46).le (by omega)
      refine q_forNT (K := K) (xs := [.str "file", .str "folder"]) (eu_tup (by walk_at "ev") (by decide)) (fun pt j' σ' H' => ∃ o6 o7 o8 o9 o10 o11 o12 o13 o14, σ' = [some (.ref sc), some (.ref p), some (.int (i : Nat)), some (.ref l), some (.int (n : Nat)), some (.ref ch), o6, o7, o8, o9, o10, o11, o12, o13, o14] ∧ H' pt = some (.tup [.str "file", .str "folder"]) ∧ PenAt H' p (27 * i + 17 + j') ∧ ToldAt H' l cs ∧ ChangeAt K a H' ch cs) (fun pt H7 _ e7 h7 => ⟨_, _, _, _, _, _, _, _, _, rfl, h7, pen6.keep e7, (told4.mono e46).mono e7, hch.mono e7⟩) (fun pt j' σ' H7 _ q => by
        obtain ⟨_, _, _, _, _, _, _, _, _, _, h7, _⟩ := q
        exact st_of h7) (fun pt j' x σ' H7 hx q => ?_) (fun pt σ' H7 q => ?_)
      · obtain ⟨o6, o7, o8, o9, o10, o11, o12, o13, o14, rfl, h7, pen7, told7, ch7⟩ := q
        obtain ⟨form, hform, rfl⟩ := form_at hx
        refine ⟨.ref l, rfl, .str form, rfl, l, cs, form, rfl, told7, ok, hform, fun t N j H8 cyc _ e8 h8 => ⟨t, _, rfl, st_of h8, rfl, _, _, rfl, _, _, rfl, rfl, ?_⟩⟩
        have hN : N ≤ 847 := cyc_most ok (form := form) cyc.ne
        have hjN := cyc.lt
        have ch8 := ch7.mono e8
        refine q_when (b := false) (et_is (et_or (et_test (ev_op (ev_reprU (K := K) (eu_cycle (K := K) (eo_var rfl ch8) (ev_var rfl) ok hform cyc) (by omega) (by omega)) (ev_reprU (K := K) (eu_pair (ev_var rfl) (ev_var rfl)) (by omega) (by omega)) (rv_ne rfl))) fun _ => et_test (ev_neUU (K := K) (eu_cycleK (K := K) (eo_var rfl ch8) (ev_var rfl) ok hform cyc) (eu_pair (ev_var rfl) (ev_var rfl)))) (by simp)) (fun z => nomatch z) fun _ H9 e9 => ?_
        refine ⟨_, rfl, .ref p, rfl, p, 27 * i + 17 + j', 4, rfl, (pen7.keep e8).keep e9, by have := (List.getElem?_eq_some_iff.mp hx).1; have e2 : ([.str "file", .str "folder"] : List V).length = 2 := rfl; omega, by decide, by decide, fun d H10 hd e10 pen10 => ⟨_, _, rfl, rfl, ?_⟩⟩
        obtain ⟨yl, yns, yat, yrest, yp, _⟩ := id ((pen7.keep e8).keep e9)
        have told10 := ((told7.mono e8).mono e9).grow e10.ex yp lp
        have ch10 := (ch8.mono e9).grow e10.ex yp
        have h10 : H10 pt = some (.tup [.str "file", .str "folder"]) := e10.ex _ _ (e9 _ _ (e8 _ _ h7)) (fun z => by have := e9 _ _ (e8 _ _ h7); rw [z, yp] at this; cases this)
        have hd4 : d < 4 := hd
        show gName 9 (V.int ((j : Int) + (d : Int))) _ _ _
        rw [show V.int ((j : Int) + (d : Int)) = V.int ((j + d : Nat) : Int) by rw [Int.natCast_add]]
        refine q_asgM (a := a) (n := n) (em_mode (ev_var rfl) hn) fun m0 H11 e11 hm0 => ?_
        refine q_forR1 (n := ((j + d : Nat) : Int)) (ea_cons (ev_var rfl) ea_nil) (by omega) (fun r σ' H' => ∃ m o11, σ' = [some (.ref sc), some (.ref p), some (.int (i : Nat)), some (.ref l), some (.int (n : Nat)), some (.ref ch), some (.str form), some (.int (j : Nat)), some (.int ((N - j : Nat) : Int)), some (.int ((j + d : Nat) : Int)), some (.ref m), o11, o12, o13, o14] ∧ ModeAt a H' m (itD cs form r n) ∧ Ex H11 H') (fun H12 e12 => ⟨m0, _, rfl, hm0.mono e12, e12⟩) (fun r σ' H12 hr' q => ?_) (fun σ' H12 q => ?_)
        · obtain ⟨m, o11, rfl, hm, e12⟩ := q
          exact s_asgM (a := a) (n := itD cs form (r + 1) n) (em_chOV (ev_var rfl) (ev_var rfl) hm (ev_var rfl) ((ch10.mono e11).mono e12) ok hform (itD_lt r hn)) fun m' H13 e13 hm' => ⟨m', _, rfl, hm', e12.trans e13⟩
        · obtain ⟨m, o11, rfl, hm, e12⟩ := q
          rw [Int.toNat_natCast] at hm
          obtain ⟨dm, hom⟩ := id hm
          refine q_asg (v := .int (itD cs form (j + d) n : Nat)) (ev_prop (ev_var rfl) hom (spv_get (v := .int (itD cs form (j + d) n : Nat)) hom (by simp [List.lookup]))) fun H13 e13 => ?_
          refine q_forR1 (n := ((N - j : Nat) : Int)) (ea_cons (ev_var rfl) ea_nil) (by omega) (fun r σ' H' => ∃ m o11, σ' = [some (.ref sc), some (.ref p), some (.int (i : Nat)), some (.ref l), some (.int (n : Nat)), some (.ref ch), some (.str form), some (.int (j : Nat)), some (.int ((N - j : Nat) : Int)), some (.int ((j + d : Nat) : Int)), some (.ref m), o11, some (.int (itD cs form (j + d) n : Nat)), o13, o14] ∧ ModeAt a H' m (itD cs form (j + d + r) n) ∧ Ex H11 H') (fun H14 e14 => ⟨m, _, rfl, (hm.mono e13).mono e14, (e12.trans e13).trans e14⟩) (fun r σ' H14 hr' q => ?_) (fun σ' H14 q => ?_)
          · obtain ⟨m, o11, rfl, hm, e14⟩ := q
            exact s_asgM (a := a) (n := itD cs form (j + d + (r + 1)) n) (em_chOV (ev_var rfl) (ev_var rfl) hm (ev_var rfl) ((ch10.mono e11).mono e14) ok hform (itD_lt _ hn)) fun m' H15 e15 hm' => ⟨m', _, rfl, hm', e14.trans e15⟩
          · obtain ⟨m, o11, rfl, hm, e14⟩ := q
            rw [Int.toNat_natCast, cyc_far ok hform cyc d hn] at hm
            obtain ⟨dm, hom⟩ := id hm
            have told14 := (told10.mono e11).mono e14
            refine s_when (b := false) (et_is (et_or (et_test (ev_op (ev_prop (ev_var rfl) hom (spv_get (v := .int (itD cs form (j + d) n : Nat)) hom (by simp [List.lookup]))) (ev_var rfl) (rv_ne rfl))) fun _ => et_test (ev_op (ev_var rfl) (ev_call (vs := [.ref l, .int (n : Nat), .str form, .int ((j + d : Nat) : Int)]) (by walk_at "ev") fun H15 e15 Q15 q15 E15 => ⟨l, cs, n, j + d, form, rfl, told14.mono e15, ok, hn, by omega, q15⟩) (rv_ne rfl))) (by simp)) (fun z => nomatch z) fun _ H15 e15 => ?_
            have ee : Ex H10 H15 := (e11.trans e14).trans e15
            exact ⟨_, _, _, _, _, _, _, _, _, rfl, ee _ _ h10, (pen10.keep ee).le (by omega), told10.mono ee, ch10.mono ee⟩
      · obtain ⟨o6, o7, o8, o9, o10, o11, o12, o13, o14, rfl, h7, pen7, told7, ch7⟩ := q
        have pen7 : PenAt H7 p (27 * i + 19) := pen7
        obtain ⟨d1, d2, d3⟩ := dig_is n hn
        have n64 : n / 64 < 8 := by omega
        have n8 : n / 8 % 8 < 8 := Nat.mod_lt _ (by decide)
        have n1 : n % 8 < 8 := Nat.mod_lt _ (by decide)
        have l64 := let_len _ n64
        have l8 := let_len _ n8
        have l1 := let_len _ n1
        have lu : ("u=" : Str).length = 2 ∧ (",g=" : Str).length = 3 ∧ (",o=" : Str).length = 3 := by decide +kernel
        have lt : ∀ (d : Nat) (te : TE) (σ : L2.St) (H8 : Hp) (E : XK), d < 8 → Ev te σ H8 (.int (d : Nat)) → Ev (tCall spLLet [] E (tCons te tNil)) σ H8 (.str (letN d)) := fun d te σ H8 E hd he => ev_call (vs := [.int (d : Nat)]) (ea_cons he ea_nil) fun H9 e9 Q9 q9 E9 => ⟨d, rfl, hd, q9⟩
        refine q_asgCh (K := K) (a := a) (ech_setM (em_mode (ev_var rfl) hn) hn) fun go H8 e8 hgo => ?_
        refine q_asg (v := .str (("u=" : Str) ++ letN (n / 64) ++ (",g=" : Str) ++ letN (n / 8 % 8))) (ev_op (ev_op (ev_op ev_c (lt (n / 64) _ _ _ _ n64 (ev_is (ev_op (ev_var rfl) ev_c (rv_I (by decide))) (congrArg V.int d3))) (rv_addS (by omega))) ev_c (rv_addS (by rw [len_app]; omega))) (lt (n / 8 % 8) _ _ _ _ n8 (ev_is (ev_op (ev_op (ev_var rfl) ev_c (rv_I (by decide))) ev_c rv_I0) (congrArg V.int d1))) (rv_addS (by rw [len_app, len_app]; omega))) fun H9 e9 => ?_
        have hgo9 := hgo.mono e9
        obtain ⟨dg, ctg, ttg, psg, hog, _⟩ := id hgo9
        refine q_when (b := false) (et_is (et_or (et_test (ev_op (ev_strOwn (s := Txt.join "," ((setC n).map clText)) (ev_var rfl) hog fun H10 e10 Q10 q10 E10 => ⟨go, setC n, rfl, hgo9.mono e10, setC_ok hn, by show 3 ≤ 8; decide, q10⟩) (ev_op (ev_op (ev_var rfl) ev_c (rv_addS (by rw [len_app, len_app, len_app]; omega))) (lt (n % 8) _ _ _ _ n1 (ev_is (ev_op (ev_var rfl) ev_c rv_I0) (congrArg V.int d2))) (rv_addS (by rw [len_app, len_app, len_app, len_app]; omega))) (rv_ne rfl))) fun _ => et_not (a := true) (et_test (ev_opCh1 (K := K) (a := a) (ech_setK (ev_var rfl) hn) (fun H10 e10 => ev_var rfl) fun q H10 hq e10 => rv_sameCh hq (hgo9.mono e10)))) (by rw [set_text _ n64 _ n8 _ n1]; simp [setC])) (fun z => nomatch z) fun _ H10 e10 => ?_
        refine s_forNT (K := K) (xs := [.str "file", .str "folder"]) (eu_tup (by walk_at "ev") (by decide)) (fun pt j' σ' H' => ∃ o6, σ' = [some (.ref sc), some (.ref p), some (.int (i : Nat)), some (.ref l), some (.int (n : Nat)), some (.ref ch), o6, o7, o8, o9, o10, o11, o12, some (.ref go), some (.str (("u=" : Str) ++ letN (n / 64) ++ (",g=" : Str) ++ letN (n / 8 % 8)))] ∧ H' pt = some (.tup [.str "file", .str "folder"]) ∧ PenAt H' p (27 * i + 19 + 4 * j') ∧ ChangeAt K a H' go (setC n)) (fun pt H11 _ e11 h11 => ⟨_, rfl, h11, (((pen7.keep e8).keep e9).keep e10).keep e11, (hgo9.mono e10).mono e11⟩) (fun pt j' σ' H11 _ q => by
          obtain ⟨_, _, h11, _⟩ := q
          exact st_of h11) (fun pt j' x σ' H11 hx q => ?_) (fun pt σ' H11 q => ?_)
        · obtain ⟨o6, rfl, h11, pen11, go11⟩ := q
          obtain ⟨form, hform, rfl⟩ := form_at hx
          have hj2 : j' < 2 := (List.getElem?_eq_some_iff.mp hx).1
          obtain ⟨yl, yns, yat, yrest, yp, _⟩ := id pen11
          refine s_penOr (p := p) (n := n) (k := 27 * i + 19 + 4 * j' + 4) rfl (fun Q11 q11 => ?_) (fun H12 e12 => et_is (et_test (ev_neUU (K := K) (b := [1, 2 - 1]) (c := [1, 1]) (eu_cycle (K := K) (eo_var rfl (go11.grow e12.ex yp)) (ev_var rfl) (setC_ok hn) hform (set_cyc hn)) (eu_pair ev_c ev_c))) (by decide)) (fun H12 e12 pen12 => ⟨_, rfl, e12.ex _ _ h11 (fun z => by rw [z, yp] at h11; cases h11), pen12.le (by omega), go11.grow e12.ex yp⟩)
          refine ⟨.ref go, rfl, go, rfl, .ref p, rfl, p, 27 * i + 19 + 4 * j', rfl, pen11, by omega, fun n2 H12 hn2 e12 pen12 => ⟨.str form, rfl, ?_⟩⟩
          have go12 := go11.grow e12.ex yp
          obtain ⟨d12, ct12, tt12, ps12, ho12, _⟩ := id go12
          refine ⟨.inr ⟨d12, _, ho12⟩, go, .int (n2 : Nat), n2, setC n, form, rfl, go12, setC_ok hn, hform, hn2, .inl rfl, fun mq H13 _ e13 hmq => ?_⟩
          rw [set_is hn hn2 hform] at hmq
          obtain ⟨dq, hoq⟩ := hmq
          exact ⟨mq, dq, _, rfl, hoq, mq, dq, _, .int (n : Nat), rfl, hoq, by simp [List.lookup], q11 H13 (e12.trans (ExP.of e13)) (pen12.keep e13)⟩
        · obtain ⟨o6, rfl, h11, pen11, go11⟩ := q
          exact ⟨_, _, _, _, _, _, _, _, _, _, _, _, _, rfl, pen11.le (by show 27 * i + 19 + 4 * 2 ≤ 27 * (i + 1); omega)⟩
    · obtain ⟨o2, o3, o4, o5, o6, o7, o8, o9, o10, o11, o12, o13, o14, rfl, pen2⟩ := q
      obtain ⟨okA, okB, spA, spB⟩ := last_facts
      have fi : ("file" : Str) ∈ forms := by decide +kernel
      exact s_ret (v := .bl true) (ev_is (ev_andV (ev_eqUU (K := K) (b := [1, 3 - 1]) (c := [1, 2]) (eu_cycle (K := K) (EvCh.old (ech_read (cs := lastA) spA (by decide +kernel) okA (by decide) (by decide))) ev_c okA fi lastA_cyc) (eu_pair ev_c ev_c)) fun _ => ev_eqUU (K := K) (b := [0, 1 - 0]) (c := [0, 1]) (eu_cycle (K := K) (EvCh.old (ech_read (cs := lastB) spB (by decide +kernel) okB (by decide) (by decide))) ev_c okB fi lastB_cyc) (eu_pair ev_c ev_c)) (by decide)) fun H3 e3 => k H3
end
end KX
set_option Elab.async false
set_option linter.all false
set_option maxRecDepth 100000
set_option maxHeartbeats 4000000
namespace KX
open PySem PySem.Spec PyProof.Rows L2 Evl
local macro_rules | `(tactic| walk_at "ev") => `(tactic| repeat' (first | exact ev_c | exact ev_var rfl | exact rv_I0 | refine' rv_I ?_ | refine' rv_eq ?_ | refine' rv_ne ?_ | refine' ev_op ?_ ?_ ?_ | exact ea_nil | refine' ea_cons ?_ ?_ | refine' et_test ?_ | refine' et_B ?_ | refine' et_not ?_ | refine' ev_notV ?_))

open PySem
theorem kit_self {K : PySem.W.Frag} {C : Addr} : PySem.W.kitOne K (.ref C) (.ref C) = some true := by
  unfold PySem.W.kitOne
  rw [if_pos (beq_iff_eq.mpr rfl)]
theorem kit_no {K : PySem.W.Frag} {C : Addr} {cd : PySem.ClassData} (ci : PySem.W.clsIn K C = some cd) (ti : PySem.W.typeIn K (.ref C) = some (.type "type")) (su : PySem.W.subIn K (.type "int") (.ref C) = some false) : PySem.W.kitOne K (.type "int") (.ref C) = some false := by
  unfold PySem.W.kitOne PySem.W.kitCls
  rw [if_neg (fun h => by have := beq_iff_eq.mp h; cases this)]
  show (if ((PySem.W.clsIn K C).isSome && PySem.W.typeIn K (.ref C) == some (.type "type")) = true then PySem.W.subIn K (.type "int") (.ref C) else none) = some false
  rw [if_pos (by rw [ci, ti]; simp), su]
theorem tup_at {K : PySem.W.Frag} {H : Hp} {k : Addr} {its : Array Value} {n : Nat} {od : Option Addr} {sl : Array (Option Value)} {xs : List V} (l : K.lookup k = some ⟨.type "tuple", od, .seq its n, sl⟩) (z : its.size ≤ sizeLine) (r : Vals xs its.toList) : SqT K H k xs := .inr ⟨_, its, n, l, rfl, rfl, z, r⟩
theorem all_mk {l : PySem.W.OpenLaw} {w : World} {K : PySem.W.Frag} {h : Heap} {mg : Str → Option Value} {fa : Addr} (X : K.In h) (G : h.Ns mainGlobals mg) (hfa : mg "law" = some (.ref fa))
    {f_is_whole f_is_whole_to f_is_choice f_pattern_in f_bits_of f_number_of f_is_meant f_pattern_behind f_part_of f_parts_for f_number_behind f__law_pen f__law_draw f__law_pick f__law_clause f__law_clause_done f__law_mode f_law f_in_turn f_tables_of f_letters_of f__law_text f__law_change f__law_change_text f__law_change_done f__law_cycle f__law_times f__law_letters f_Mode f_ModeD_initD f_Mode_number p_Mode_number f_Mode_digits p_Mode_digits f_ModeD_strD f_ModeD_eqD f_Clause f_ClauseD_initD f_Clause_who p_Clause_who f_Clause_sign p_Clause_sign f_Clause_what p_Clause_what f_ClauseD_strD f_ClauseD_eqD f_ClauseD_callD f_Clause_read p_Clause_read f_Change f_ChangeD_initD f_Change_clauses p_Change_clauses f_Change_tables p_Change_tables f_Change_cycle f_ChangeD_strD f_ChangeD_eqD f_ChangeD_callD f_Change_setting p_Change_setting f_Change_read p_Change_read k_SIGNS k_PATTERNS k_NINE_BITS k_P1 k_P2 k_P3 k_P4 k_PARTS x_BadClause k_CLASSES k_WEIGHTS : Addr}
    {od_is_whole : Option Addr} {an_is_whole : Option Addr} {sl_is_whole : Array (Option Value)} {oc_is_whole kV_is_whole dc_is_whole pm_is_whole cd_is_whole ct_is_whole : Value} {od_is_whole_to : Option Addr} {an_is_whole_to : Option Addr} {sl_is_whole_to : Array (Option Value)} {oc_is_whole_to kV_is_whole_to dc_is_whole_to pm_is_whole_to cd_is_whole_to ct_is_whole_to : Value} {od_is_choice : Option Addr} {an_is_choice : Option Addr} {sl_is_choice : Array (Option Value)} {oc_is_choice kV_is_choice dc_is_choice pm_is_choice cd_is_choice ct_is_choice : Value} {od_pattern_in : Option Addr} {an_pattern_in : Option Addr} {sl_pattern_in : Array (Option Value)} {oc_pattern_in kV_pattern_in dc_pattern_in pm_pattern_in cd_pattern_in ct_pattern_in : Value} {od_bits_of : Option Addr} {an_bits_of : Option Addr} {sl_bits_of : Array (Option Value)} {oc_bits_of kV_bits_of dc_bits_of pm_bits_of cd_bits_of ct_bits_of : Value} {od_number_of : Option Addr} {an_number_of : Option Addr} {sl_number_of : Array (Option Value)} {oc_number_of kV_number_of dc_number_of pm_number_of cd_number_of ct_number_of : Value} {od_is_meant : Option Addr} {an_is_meant : Option Addr} {sl_is_meant : Array (Option Value)} {oc_is_meant kV_is_meant dc_is_meant pm_is_meant cd_is_meant ct_is_meant : Value} {od_pattern_behind : Option Addr} {an_pattern_behind : Option Addr} {sl_pattern_behind : Array (Option Value)} {oc_pattern_behind kV_pattern_behind dc_pattern_behind pm_pattern_behind cd_pattern_behind ct_pattern_behind : Value} {od_part_of : Option Addr} {an_part_of : Option Addr} {sl_part_of : Array (Option Value)} {oc_part_of kV_part_of dc_part_of pm_part_of cd_part_of ct_part_of : Value} {od_parts_for : Option Addr} {an_parts_for : Option Addr} {sl_parts_for : Array (Option Value)} {oc_parts_for kV_parts_for dc_parts_for pm_parts_for cd_parts_for ct_parts_for : Value} {od_number_behind : Option Addr} {an_number_behind : Option Addr} {sl_number_behind : Array (Option Value)} {oc_number_behind kV_number_behind dc_number_behind pm_number_behind cd_number_behind ct_number_behind : Value} {od__law_pen : Option Addr} {an__law_pen : Option Addr} {sl__law_pen : Array (Option Value)} {oc__law_pen kV__law_pen dc__law_pen pm__law_pen cd__law_pen ct__law_pen : Value} {od__law_draw : Option Addr} {an__law_draw : Option Addr} {sl__law_draw : Array (Option Value)} {oc__law_draw kV__law_draw dc__law_draw pm__law_draw cd__law_draw ct__law_draw : Value} {od__law_pick : Option Addr} {an__law_pick : Option Addr} {sl__law_pick : Array (Option Value)} {oc__law_pick kV__law_pick dc__law_pick pm__law_pick cd__law_pick ct__law_pick : Value} {od__law_clause : Option Addr} {an__law_clause : Option Addr} {sl__law_clause : Array (Option Value)} {oc__law_clause kV__law_clause dc__law_clause pm__law_clause cd__law_clause ct__law_clause : Value} {od__law_clause_done : Option Addr} {an__law_clause_done : Option Addr} {sl__law_clause_done : Array (Option Value)} {oc__law_clause_done kV__law_clause_done dc__law_clause_done pm__law_clause_done cd__law_clause_done ct__law_clause_done : Value} {od__law_mode : Option Addr} {an__law_mode : Option Addr} {sl__law_mode : Array (Option Value)} {oc__law_mode kV__law_mode dc__law_mode pm__law_mode cd__law_mode ct__law_mode : Value} {od_law : Option Addr} {an_law : Option Addr} {sl_law : Array (Option Value)} {oc_law kV_law dc_law pm_law cd_law ct_law : Value} {od_in_turn : Option Addr} {an_in_turn : Option Addr} {sl_in_turn : Array (Option Value)} {oc_in_turn kV_in_turn dc_in_turn pm_in_turn cd_in_turn ct_in_turn : Value} {od_tables_of : Option Addr} {an_tables_of : Option Addr} {sl_tables_of : Array (Option Value)} {oc_tables_of kV_tables_of dc_tables_of pm_tables_of cd_tables_of ct_tables_of : Value} {od_letters_of : Option Addr} {an_letters_of : Option Addr} {sl_letters_of : Array (Option Value)} {oc_letters_of kV_letters_of dc_letters_of pm_letters_of cd_letters_of ct_letters_of : Value} {od__law_text : Option Addr} {an__law_text : Option Addr} {sl__law_text : Array (Option Value)} {oc__law_text kV__law_text dc__law_text pm__law_text cd__law_text ct__law_text : Value} {od__law_change : Option Addr} {an__law_change : Option Addr} {sl__law_change : Array (Option Value)} {oc__law_change kV__law_change dc__law_change pm__law_change cd__law_change ct__law_change : Value} {od__law_change_text : Option Addr} {an__law_change_text : Option Addr} {sl__law_change_text : Array (Option Value)} {oc__law_change_text kV__law_change_text dc__law_change_text pm__law_change_text cd__law_change_text ct__law_change_text : Value} {od__law_change_done : Option Addr} {an__law_change_done : Option Addr} {sl__law_change_done : Array (Option Value)} {oc__law_change_done kV__law_change_done dc__law_change_done pm__law_change_done cd__law_change_done ct__law_change_done : Value} {od__law_cycle : Option Addr} {an__law_cycle : Option Addr} {sl__law_cycle : Array (Option Value)} {oc__law_cycle kV__law_cycle dc__law_cycle pm__law_cycle cd__law_cycle ct__law_cycle : Value} {od__law_times : Option Addr} {an__law_times : Option Addr} {sl__law_times : Array (Option Value)} {oc__law_times kV__law_times dc__law_times pm__law_times cd__law_times ct__law_times : Value} {od__law_letters : Option Addr} {an__law_letters : Option Addr} {sl__law_letters : Array (Option Value)} {oc__law_letters kV__law_letters dc__law_letters pm__law_letters cd__law_letters ct__law_letters : Value} {od_ModeD_initD : Option Addr} {an_ModeD_initD : Option Addr} {sl_ModeD_initD : Array (Option Value)} {oc_ModeD_initD kV_ModeD_initD dc_ModeD_initD pm_ModeD_initD cd_ModeD_initD ct_ModeD_initD : Value} {re_Mode_number : List Value} {od_Mode_number : Option Addr} {an_Mode_number : Option Addr} {sl_Mode_number : Array (Option Value)} {oc_Mode_number kV_Mode_number dc_Mode_number pm_Mode_number cd_Mode_number ct_Mode_number : Value} {re_Mode_digits : List Value} {od_Mode_digits : Option Addr} {an_Mode_digits : Option Addr} {sl_Mode_digits : Array (Option Value)} {oc_Mode_digits kV_Mode_digits dc_Mode_digits pm_Mode_digits cd_Mode_digits ct_Mode_digits : Value} {od_ModeD_strD : Option Addr} {an_ModeD_strD : Option Addr} {sl_ModeD_strD : Array (Option Value)} {oc_ModeD_strD kV_ModeD_strD dc_ModeD_strD pm_ModeD_strD cd_ModeD_strD ct_ModeD_strD : Value} {od_ModeD_eqD : Option Addr} {an_ModeD_eqD : Option Addr} {sl_ModeD_eqD : Array (Option Value)} {oc_ModeD_eqD kV_ModeD_eqD dc_ModeD_eqD pm_ModeD_eqD cd_ModeD_eqD ct_ModeD_eqD : Value} {tk_Mode_MOST : Tok} {cd_Mode : PySem.ClassData} {od_ClauseD_initD : Option Addr} {an_ClauseD_initD : Option Addr} {sl_ClauseD_initD : Array (Option Value)} {oc_ClauseD_initD kV_ClauseD_initD dc_ClauseD_initD pm_ClauseD_initD cd_ClauseD_initD ct_ClauseD_initD : Value} {re_Clause_who : List Value} {od_Clause_who : Option Addr} {an_Clause_who : Option Addr} {sl_Clause_who : Array (Option Value)} {oc_Clause_who kV_Clause_who dc_Clause_who pm_Clause_who cd_Clause_who ct_Clause_who : Value} {re_Clause_sign : List Value} {od_Clause_sign : Option Addr} {an_Clause_sign : Option Addr} {sl_Clause_sign : Array (Option Value)} {oc_Clause_sign kV_Clause_sign dc_Clause_sign pm_Clause_sign cd_Clause_sign ct_Clause_sign : Value} {re_Clause_what : List Value} {od_Clause_what : Option Addr} {an_Clause_what : Option Addr} {sl_Clause_what : Array (Option Value)} {oc_Clause_what kV_Clause_what dc_Clause_what pm_Clause_what cd_Clause_what ct_Clause_what : Value} {od_ClauseD_strD : Option Addr} {an_ClauseD_strD : Option Addr} {sl_ClauseD_strD : Array (Option Value)} {oc_ClauseD_strD kV_ClauseD_strD dc_ClauseD_strD pm_ClauseD_strD cd_ClauseD_strD ct_ClauseD_strD : Value} {od_ClauseD_eqD : Option Addr} {an_ClauseD_eqD : Option Addr} {sl_ClauseD_eqD : Array (Option Value)} {oc_ClauseD_eqD kV_ClauseD_eqD dc_ClauseD_eqD pm_ClauseD_eqD cd_ClauseD_eqD ct_ClauseD_eqD : Value} {od_ClauseD_callD : Option Addr} {an_ClauseD_callD : Option Addr} {sl_ClauseD_callD : Array (Option Value)} {oc_ClauseD_callD kV_ClauseD_callD dc_ClauseD_callD pm_ClauseD_callD cd_ClauseD_callD ct_ClauseD_callD : Value} {re_Clause_read : List Value} {od_Clause_read : Option Addr} {an_Clause_read : Option Addr} {sl_Clause_read : Array (Option Value)} {oc_Clause_read kV_Clause_read dc_Clause_read pm_Clause_read cd_Clause_read ct_Clause_read : Value} {cd_Clause : PySem.ClassData} {od_ChangeD_initD : Option Addr} {an_ChangeD_initD : Option Addr} {sl_ChangeD_initD : Array (Option Value)} {oc_ChangeD_initD kV_ChangeD_initD dc_ChangeD_initD pm_ChangeD_initD cd_ChangeD_initD ct_ChangeD_initD : Value} {re_Change_clauses : List Value} {od_Change_clauses : Option Addr} {an_Change_clauses : Option Addr} {sl_Change_clauses : Array (Option Value)} {oc_Change_clauses kV_Change_clauses dc_Change_clauses pm_Change_clauses cd_Change_clauses ct_Change_clauses : Value} {re_Change_tables : List Value} {od_Change_tables : Option Addr} {an_Change_tables : Option Addr} {sl_Change_tables : Array (Option Value)} {oc_Change_tables kV_Change_tables dc_Change_tables pm_Change_tables cd_Change_tables ct_Change_tables : Value} {od_Change_cycle : Option Addr} {an_Change_cycle : Option Addr} {sl_Change_cycle : Array (Option Value)} {oc_Change_cycle kV_Change_cycle dc_Change_cycle pm_Change_cycle cd_Change_cycle ct_Change_cycle : Value} {od_ChangeD_strD : Option Addr} {an_ChangeD_strD : Option Addr} {sl_ChangeD_strD : Array (Option Value)} {oc_ChangeD_strD kV_ChangeD_strD dc_ChangeD_strD pm_ChangeD_strD cd_ChangeD_strD ct_ChangeD_strD : Value} {od_ChangeD_eqD : Option Addr} {an_ChangeD_eqD : Option Addr} {sl_ChangeD_eqD : Array (Option Value)} {oc_ChangeD_eqD kV_ChangeD_eqD dc_ChangeD_eqD pm_ChangeD_eqD cd_ChangeD_eqD ct_ChangeD_eqD : Value} {tk_Change_MOST : Tok} {od_ChangeD_callD : Option Addr} {an_ChangeD_callD : Option Addr} {sl_ChangeD_callD : Array (Option Value)} {oc_ChangeD_callD kV_ChangeD_callD dc_ChangeD_callD pm_ChangeD_callD cd_ChangeD_callD ct_ChangeD_callD : Value} {re_Change_setting : List Value} {od_Change_setting : Option Addr} {an_Change_setting : Option Addr} {sl_Change_setting : Array (Option Value)} {oc_Change_setting kV_Change_setting dc_Change_setting pm_Change_setting cd_Change_setting ct_Change_setting : Value} {re_Change_read : List Value} {od_Change_read : Option Addr} {an_Change_read : Option Addr} {sl_Change_read : Array (Option Value)} {oc_Change_read kV_Change_read dc_Change_read pm_Change_read cd_Change_read ct_Change_read : Value} {cd_Change : PySem.ClassData} {its_SIGNS : Array Value} {tn_SIGNS : Nat} {tod_SIGNS : Option Addr} {tsl_SIGNS : Array (Option Value)} {its_PATTERNS : Array Value} {tn_PATTERNS : Nat} {tod_PATTERNS : Option Addr} {tsl_PATTERNS : Array (Option Value)} {its_NINE_BITS : Array Value} {tn_NINE_BITS : Nat} {tod_NINE_BITS : Option Addr} {tsl_NINE_BITS : Array (Option Value)} {tk_NS : Tok} {its_PARTS : Array Value} {tn_PARTS : Nat} {tod_PARTS : Option Addr} {tsl_PARTS : Array (Option Value)} {its_P1 : Array Value} {tn_P1 : Nat} {tod_P1 : Option Addr} {tsl_P1 : Array (Option Value)} {its_P2 : Array Value} {tn_P2 : Nat} {tod_P2 : Option Addr} {tsl_P2 : Array (Option Value)} {its_P3 : Array Value} {tn_P3 : Nat} {tod_P3 : Option Addr} {tsl_P3 : Array (Option Value)} {its_P4 : Array Value} {tn_P4 : Nat} {tod_P4 : Option Addr} {tsl_P4 : Array (Option Value)} {es_CL : Array DictEntry} {n_CL : Nat} {tku tkg tko : Tok} {es_WG : Array DictEntry} {n_WG : Nat} {tkr tkw tkx : Tok}
    (z_isinstance : PySem.W.nsIn K mainGlobals "isinstance" = some none)
    (z_int : PySem.W.nsIn K mainGlobals "int" = some none)
    (z_bool : PySem.W.nsIn K mainGlobals "bool" = some none)
    (z_str : PySem.W.nsIn K mainGlobals "str" = some none)
    (z_sum : PySem.W.nsIn K mainGlobals "sum" = some none)
    (z_tuple : PySem.W.nsIn K mainGlobals "tuple" = some none)
    (z_zip : PySem.W.nsIn K mainGlobals "zip" = some none)
    (z_list : PySem.W.nsIn K mainGlobals "list" = some none)
    (z_len : PySem.W.nsIn K mainGlobals "len" = some none)
    (z_abs : PySem.W.nsIn K mainGlobals "abs" = some none)
    (z_range : PySem.W.nsIn K mainGlobals "range" = some none)
    (z_dict : PySem.W.nsIn K mainGlobals "dict" = some none)
    (z_enumerate : PySem.W.nsIn K mainGlobals "enumerate" = some none)
    (z_repr : PySem.W.nsIn K mainGlobals "repr" = some none)
    (a_is_whole : PySem.W.nsIn K mainGlobals "is_whole" = some (some (.ref f_is_whole)))
    (l_is_whole : K.lookup f_is_whole = some ⟨oc_is_whole, od_is_whole, .func (PySem.W.fnOf "is_whole" "is_whole" (defArgs s_is_whole) (defBody s_is_whole) (defScope s_is_whole) .none kV_is_whole dc_is_whole pm_is_whole an_is_whole cd_is_whole ct_is_whole), sl_is_whole⟩)
    (co_is_whole : PySem.W.codeIn K cd_is_whole "is_whole" = true)
    (kp_is_whole : PySem.W.keepIn K (.ref f_is_whole) = true)
    (a_is_whole_to : PySem.W.nsIn K mainGlobals "is_whole_to" = some (some (.ref f_is_whole_to)))
    (l_is_whole_to : K.lookup f_is_whole_to = some ⟨oc_is_whole_to, od_is_whole_to, .func (PySem.W.fnOf "is_whole_to" "is_whole_to" (defArgs s_is_whole_to) (defBody s_is_whole_to) (defScope s_is_whole_to) .none kV_is_whole_to dc_is_whole_to pm_is_whole_to an_is_whole_to cd_is_whole_to ct_is_whole_to), sl_is_whole_to⟩)
    (co_is_whole_to : PySem.W.codeIn K cd_is_whole_to "is_whole_to" = true)
    (kp_is_whole_to : PySem.W.keepIn K (.ref f_is_whole_to) = true)
    (a_is_choice : PySem.W.nsIn K mainGlobals "is_choice" = some (some (.ref f_is_choice)))
    (l_is_choice : K.lookup f_is_choice = some ⟨oc_is_choice, od_is_choice, .func (PySem.W.fnOf "is_choice" "is_choice" (defArgs s_is_choice) (defBody s_is_choice) (defScope s_is_choice) .none kV_is_choice dc_is_choice pm_is_choice an_is_choice cd_is_choice ct_is_choice), sl_is_choice⟩)
    (co_is_choice : PySem.W.codeIn K cd_is_choice "is_choice" = true)
    (kp_is_choice : PySem.W.keepIn K (.ref f_is_choice) = true)
    (a_pattern_in : PySem.W.nsIn K mainGlobals "pattern_in" = some (some (.ref f_pattern_in)))
    (l_pattern_in : K.lookup f_pattern_in = some ⟨oc_pattern_in, od_pattern_in, .func (PySem.W.fnOf "pattern_in" "pattern_in" (defArgs s_pattern_in) (defBody s_pattern_in) (defScope s_pattern_in) .none kV_pattern_in dc_pattern_in pm_pattern_in an_pattern_in cd_pattern_in ct_pattern_in), sl_pattern_in⟩)
    (co_pattern_in : PySem.W.codeIn K cd_pattern_in "pattern_in" = true)
    (kp_pattern_in : PySem.W.keepIn K (.ref f_pattern_in) = true)
    (a_bits_of : PySem.W.nsIn K mainGlobals "bits_of" = some (some (.ref f_bits_of)))
    (l_bits_of : K.lookup f_bits_of = some ⟨oc_bits_of, od_bits_of, .func (PySem.W.fnOf "bits_of" "bits_of" (defArgs s_bits_of) (defBody s_bits_of) (defScope s_bits_of) .none kV_bits_of dc_bits_of pm_bits_of an_bits_of cd_bits_of ct_bits_of), sl_bits_of⟩)
    (co_bits_of : PySem.W.codeIn K cd_bits_of "bits_of" = true)
    (kp_bits_of : PySem.W.keepIn K (.ref f_bits_of) = true)
    (a_number_of : PySem.W.nsIn K mainGlobals "number_of" = some (some (.ref f_number_of)))
    (l_number_of : K.lookup f_number_of = some ⟨oc_number_of, od_number_of, .func (PySem.W.fnOf "number_of" "number_of" (defArgs s_number_of) (defBody s_number_of) (defScope s_number_of) .none kV_number_of dc_number_of pm_number_of an_number_of cd_number_of ct_number_of), sl_number_of⟩)
    (co_number_of : PySem.W.codeIn K cd_number_of "number_of" = true)
    (kp_number_of : PySem.W.keepIn K (.ref f_number_of) = true)
    (a_is_meant : PySem.W.nsIn K mainGlobals "is_meant" = some (some (.ref f_is_meant)))
    (l_is_meant : K.lookup f_is_meant = some ⟨oc_is_meant, od_is_meant, .func (PySem.W.fnOf "is_meant" "is_meant" (defArgs s_is_meant) (defBody s_is_meant) (defScope s_is_meant) .none kV_is_meant dc_is_meant pm_is_meant an_is_meant cd_is_meant ct_is_meant), sl_is_meant⟩)
    (co_is_meant : PySem.W.codeIn K cd_is_meant "is_meant" = true)
    (kp_is_meant : PySem.W.keepIn K (.ref f_is_meant) = true)
    (a_pattern_behind : PySem.W.nsIn K mainGlobals "pattern_behind" = some (some (.ref f_pattern_behind)))
    (l_pattern_behind : K.lookup f_pattern_behind = some ⟨oc_pattern_behind, od_pattern_behind, .func (PySem.W.fnOf "pattern_behind" "pattern_behind" (defArgs s_pattern_behind) (defBody s_pattern_behind) (defScope s_pattern_behind) .none kV_pattern_behind dc_pattern_behind pm_pattern_behind an_pattern_behind cd_pattern_behind ct_pattern_behind), sl_pattern_behind⟩)
    (co_pattern_behind : PySem.W.codeIn K cd_pattern_behind "pattern_behind" = true)
    (kp_pattern_behind : PySem.W.keepIn K (.ref f_pattern_behind) = true)
    (a_part_of : PySem.W.nsIn K mainGlobals "part_of" = some (some (.ref f_part_of)))
    (l_part_of : K.lookup f_part_of = some ⟨oc_part_of, od_part_of, .func (PySem.W.fnOf "part_of" "part_of" (defArgs s_part_of) (defBody s_part_of) (defScope s_part_of) .none kV_part_of dc_part_of pm_part_of an_part_of cd_part_of ct_part_of), sl_part_of⟩)
    (co_part_of : PySem.W.codeIn K cd_part_of "part_of" = true)
    (kp_part_of : PySem.W.keepIn K (.ref f_part_of) = true)
    (a_parts_for : PySem.W.nsIn K mainGlobals "parts_for" = some (some (.ref f_parts_for)))
    (l_parts_for : K.lookup f_parts_for = some ⟨oc_parts_for, od_parts_for, .func (PySem.W.fnOf "parts_for" "parts_for" (defArgs s_parts_for) (defBody s_parts_for) (defScope s_parts_for) .none kV_parts_for dc_parts_for pm_parts_for an_parts_for cd_parts_for ct_parts_for), sl_parts_for⟩)
    (co_parts_for : PySem.W.codeIn K cd_parts_for "parts_for" = true)
    (kp_parts_for : PySem.W.keepIn K (.ref f_parts_for) = true)
    (a_number_behind : PySem.W.nsIn K mainGlobals "number_behind" = some (some (.ref f_number_behind)))
    (l_number_behind : K.lookup f_number_behind = some ⟨oc_number_behind, od_number_behind, .func (PySem.W.fnOf "number_behind" "number_behind" (defArgs s_number_behind) (defBody s_number_behind) (defScope s_number_behind) .none kV_number_behind dc_number_behind pm_number_behind an_number_behind cd_number_behind ct_number_behind), sl_number_behind⟩)
    (co_number_behind : PySem.W.codeIn K cd_number_behind "number_behind" = true)
    (kp_number_behind : PySem.W.keepIn K (.ref f_number_behind) = true)
    (a__law_pen : PySem.W.nsIn K mainGlobals "_law_pen" = some (some (.ref f__law_pen)))
    (l__law_pen : K.lookup f__law_pen = some ⟨oc__law_pen, od__law_pen, .func (PySem.W.fnOf "_law_pen" "_law_pen" (defArgs s__law_pen) (defBody s__law_pen) (defScope s__law_pen) .none kV__law_pen dc__law_pen pm__law_pen an__law_pen cd__law_pen ct__law_pen), sl__law_pen⟩)
    (co__law_pen : PySem.W.codeIn K cd__law_pen "_law_pen" = true)
    (kp__law_pen : PySem.W.keepIn K (.ref f__law_pen) = true)
    (a__law_draw : PySem.W.nsIn K mainGlobals "_law_draw" = some (some (.ref f__law_draw)))
    (l__law_draw : K.lookup f__law_draw = some ⟨oc__law_draw, od__law_draw, .func (PySem.W.fnOf "_law_draw" "_law_draw" (defArgs s__law_draw) (defBody s__law_draw) (defScope s__law_draw) .none kV__law_draw dc__law_draw pm__law_draw an__law_draw cd__law_draw ct__law_draw), sl__law_draw⟩)
    (co__law_draw : PySem.W.codeIn K cd__law_draw "_law_draw" = true)
    (kp__law_draw : PySem.W.keepIn K (.ref f__law_draw) = true)
    (a__law_pick : PySem.W.nsIn K mainGlobals "_law_pick" = some (some (.ref f__law_pick)))
    (l__law_pick : K.lookup f__law_pick = some ⟨oc__law_pick, od__law_pick, .func (PySem.W.fnOf "_law_pick" "_law_pick" (defArgs s__law_pick) (defBody s__law_pick) (defScope s__law_pick) .none kV__law_pick dc__law_pick pm__law_pick an__law_pick cd__law_pick ct__law_pick), sl__law_pick⟩)
    (co__law_pick : PySem.W.codeIn K cd__law_pick "_law_pick" = true)
    (kp__law_pick : PySem.W.keepIn K (.ref f__law_pick) = true)
    (a__law_clause : PySem.W.nsIn K mainGlobals "_law_clause" = some (some (.ref f__law_clause)))
    (l__law_clause : K.lookup f__law_clause = some ⟨oc__law_clause, od__law_clause, .func (PySem.W.fnOf "_law_clause" "_law_clause" (defArgs s__law_clause) (defBody s__law_clause) (defScope s__law_clause) .none kV__law_clause dc__law_clause pm__law_clause an__law_clause cd__law_clause ct__law_clause), sl__law_clause⟩)
    (co__law_clause : PySem.W.codeIn K cd__law_clause "_law_clause" = true)
    (kp__law_clause : PySem.W.keepIn K (.ref f__law_clause) = true)
    (a__law_clause_done : PySem.W.nsIn K mainGlobals "_law_clause_done" = some (some (.ref f__law_clause_done)))
    (l__law_clause_done : K.lookup f__law_clause_done = some ⟨oc__law_clause_done, od__law_clause_done, .func (PySem.W.fnOf "_law_clause_done" "_law_clause_done" (defArgs s__law_clause_done) (defBody s__law_clause_done) (defScope s__law_clause_done) .none kV__law_clause_done dc__law_clause_done pm__law_clause_done an__law_clause_done cd__law_clause_done ct__law_clause_done), sl__law_clause_done⟩)
    (co__law_clause_done : PySem.W.codeIn K cd__law_clause_done "_law_clause_done" = true)
    (kp__law_clause_done : PySem.W.keepIn K (.ref f__law_clause_done) = true)
    (a__law_mode : PySem.W.nsIn K mainGlobals "_law_mode" = some (some (.ref f__law_mode)))
    (l__law_mode : K.lookup f__law_mode = some ⟨oc__law_mode, od__law_mode, .func (PySem.W.fnOf "_law_mode" "_law_mode" (defArgs s__law_mode) (defBody s__law_mode) (defScope s__law_mode) .none kV__law_mode dc__law_mode pm__law_mode an__law_mode cd__law_mode ct__law_mode), sl__law_mode⟩)
    (co__law_mode : PySem.W.codeIn K cd__law_mode "_law_mode" = true)
    (kp__law_mode : PySem.W.keepIn K (.ref f__law_mode) = true)
    (a_law : PySem.W.nsIn K mainGlobals "law" = some (some (.ref f_law)))
    (l_law : K.lookup f_law = some ⟨oc_law, od_law, .func (PySem.W.fnOf "law" "law" (defArgs s_law) (defBody s_law) (defScope s_law) .none kV_law dc_law pm_law an_law cd_law ct_law), sl_law⟩)
    (co_law : PySem.W.codeIn K cd_law "law" = true)
    (kp_law : PySem.W.keepIn K (.ref f_law) = true)
    (a_in_turn : PySem.W.nsIn K mainGlobals "in_turn" = some (some (.ref f_in_turn)))
    (l_in_turn : K.lookup f_in_turn = some ⟨oc_in_turn, od_in_turn, .func (PySem.W.fnOf "in_turn" "in_turn" (defArgs s_in_turn) (defBody s_in_turn) (defScope s_in_turn) .none kV_in_turn dc_in_turn pm_in_turn an_in_turn cd_in_turn ct_in_turn), sl_in_turn⟩)
    (co_in_turn : PySem.W.codeIn K cd_in_turn "in_turn" = true)
    (kp_in_turn : PySem.W.keepIn K (.ref f_in_turn) = true)
    (a_tables_of : PySem.W.nsIn K mainGlobals "tables_of" = some (some (.ref f_tables_of)))
    (l_tables_of : K.lookup f_tables_of = some ⟨oc_tables_of, od_tables_of, .func (PySem.W.fnOf "tables_of" "tables_of" (defArgs s_tables_of) (defBody s_tables_of) (defScope s_tables_of) .none kV_tables_of dc_tables_of pm_tables_of an_tables_of cd_tables_of ct_tables_of), sl_tables_of⟩)
    (co_tables_of : PySem.W.codeIn K cd_tables_of "tables_of" = true)
    (kp_tables_of : PySem.W.keepIn K (.ref f_tables_of) = true)
    (a_letters_of : PySem.W.nsIn K mainGlobals "letters_of" = some (some (.ref f_letters_of)))
    (l_letters_of : K.lookup f_letters_of = some ⟨oc_letters_of, od_letters_of, .func (PySem.W.fnOf "letters_of" "letters_of" (defArgs s_letters_of) (defBody s_letters_of) (defScope s_letters_of) .none kV_letters_of dc_letters_of pm_letters_of an_letters_of cd_letters_of ct_letters_of), sl_letters_of⟩)
    (co_letters_of : PySem.W.codeIn K cd_letters_of "letters_of" = true)
    (kp_letters_of : PySem.W.keepIn K (.ref f_letters_of) = true)
    (a__law_text : PySem.W.nsIn K mainGlobals "_law_text" = some (some (.ref f__law_text)))
    (l__law_text : K.lookup f__law_text = some ⟨oc__law_text, od__law_text, .func (PySem.W.fnOf "_law_text" "_law_text" (defArgs s__law_text) (defBody s__law_text) (defScope s__law_text) .none kV__law_text dc__law_text pm__law_text an__law_text cd__law_text ct__law_text), sl__law_text⟩)
    (co__law_text : PySem.W.codeIn K cd__law_text "_law_text" = true)
    (kp__law_text : PySem.W.keepIn K (.ref f__law_text) = true)
    (a__law_change : PySem.W.nsIn K mainGlobals "_law_change" = some (some (.ref f__law_change)))
    (l__law_change : K.lookup f__law_change = some ⟨oc__law_change, od__law_change, .func (PySem.W.fnOf "_law_change" "_law_change" (defArgs s__law_change) (defBody s__law_change) (defScope s__law_change) .none kV__law_change dc__law_change pm__law_change an__law_change cd__law_change ct__law_change), sl__law_change⟩)
    (co__law_change : PySem.W.codeIn K cd__law_change "_law_change" = true)
    (kp__law_change : PySem.W.keepIn K (.ref f__law_change) = true)
    (a__law_change_text : PySem.W.nsIn K mainGlobals "_law_change_text" = some (some (.ref f__law_change_text)))
    (l__law_change_text : K.lookup f__law_change_text = some ⟨oc__law_change_text, od__law_change_text, .func (PySem.W.fnOf "_law_change_text" "_law_change_text" (defArgs s__law_change_text) (defBody s__law_change_text) (defScope s__law_change_text) .none kV__law_change_text dc__law_change_text pm__law_change_text an__law_change_text cd__law_change_text ct__law_change_text), sl__law_change_text⟩)
    (co__law_change_text : PySem.W.codeIn K cd__law_change_text "_law_change_text" = true)
    (kp__law_change_text : PySem.W.keepIn K (.ref f__law_change_text) = true)
    (a__law_change_done : PySem.W.nsIn K mainGlobals "_law_change_done" = some (some (.ref f__law_change_done)))
    (l__law_change_done : K.lookup f__law_change_done = some ⟨oc__law_change_done, od__law_change_done, .func (PySem.W.fnOf "_law_change_done" "_law_change_done" (defArgs s__law_change_done) (defBody s__law_change_done) (defScope s__law_change_done) .none kV__law_change_done dc__law_change_done pm__law_change_done an__law_change_done cd__law_change_done ct__law_change_done), sl__law_change_done⟩)
    (co__law_change_done : PySem.W.codeIn K cd__law_change_done "_law_change_done" = true)
    (kp__law_change_done : PySem.W.keepIn K (.ref f__law_change_done) = true)
    (a__law_cycle : PySem.W.nsIn K mainGlobals "_law_cycle" = some (some (.ref f__law_cycle)))
    (l__law_cycle : K.lookup f__law_cycle = some ⟨oc__law_cycle, od__law_cycle, .func (PySem.W.fnOf "_law_cycle" "_law_cycle" (defArgs s__law_cycle) (defBody s__law_cycle) (defScope s__law_cycle) .none kV__law_cycle dc__law_cycle pm__law_cycle an__law_cycle cd__law_cycle ct__law_cycle), sl__law_cycle⟩)
    (co__law_cycle : PySem.W.codeIn K cd__law_cycle "_law_cycle" = true)
    (kp__law_cycle : PySem.W.keepIn K (.ref f__law_cycle) = true)
    (a__law_times : PySem.W.nsIn K mainGlobals "_law_times" = some (some (.ref f__law_times)))
    (l__law_times : K.lookup f__law_times = some ⟨oc__law_times, od__law_times, .func (PySem.W.fnOf "_law_times" "_law_times" (defArgs s__law_times) (defBody s__law_times) (defScope s__law_times) .none kV__law_times dc__law_times pm__law_times an__law_times cd__law_times ct__law_times), sl__law_times⟩)
    (co__law_times : PySem.W.codeIn K cd__law_times "_law_times" = true)
    (kp__law_times : PySem.W.keepIn K (.ref f__law_times) = true)
    (a__law_letters : PySem.W.nsIn K mainGlobals "_law_letters" = some (some (.ref f__law_letters)))
    (l__law_letters : K.lookup f__law_letters = some ⟨oc__law_letters, od__law_letters, .func (PySem.W.fnOf "_law_letters" "_law_letters" (defArgs s__law_letters) (defBody s__law_letters) (defScope s__law_letters) .none kV__law_letters dc__law_letters pm__law_letters an__law_letters cd__law_letters ct__law_letters), sl__law_letters⟩)
    (co__law_letters : PySem.W.codeIn K cd__law_letters "_law_letters" = true)
    (kp__law_letters : PySem.W.keepIn K (.ref f__law_letters) = true)
    (a_Mode : PySem.W.nsIn K mainGlobals "Mode" = some (some (.ref f_Mode)))
    (pg_Mode : PySem.W.plainGet K f_Mode Str.empty = true)
    (hd_Mode : PySem.W.hasDictIn K f_Mode = true)
    (po_Mode : PySem.W.plainOver K f_Mode = true)
    (sa_Mode : PySem.W.findIn K (.ref f_Mode) "__setattr__" = some (some (.builtin "object.__setattr__")))
    (n_number_Mode : PySem.W.findIn K (.ref f_Mode) "_number" = some none)
    (at_ModeD_initD : PySem.W.findIn K (.ref f_Mode) "__init__" = some (some (.ref f_ModeD_initD)))
    (fi_ModeD_initD : PySem.W.isFn K (.ref f_ModeD_initD) = true)
    (l_ModeD_initD : K.lookup f_ModeD_initD = some ⟨oc_ModeD_initD, od_ModeD_initD, .func (PySem.W.fnOf "__init__" "Mode.__init__" (defArgs s_ModeD_initD) (defBody s_ModeD_initD) (defScope s_ModeD_initD) .none kV_ModeD_initD dc_ModeD_initD pm_ModeD_initD an_ModeD_initD cd_ModeD_initD ct_ModeD_initD), sl_ModeD_initD⟩)
    (co_ModeD_initD : PySem.W.codeIn K cd_ModeD_initD "Mode.__init__" = true)
    (kp_ModeD_initD : PySem.W.keepIn K (.ref f_ModeD_initD) = true)
    (mk_Mode : PySem.W.makesIn K f_Mode = true)
    (kc_Mode : PySem.W.keepIn K (.ref f_Mode) = true)
    (at_Mode_number : PySem.W.findIn K (.ref f_Mode) "number" = some (some (.ref p_Mode_number)))
    (ge_Mode_number : PySem.W.specialIn K (.ref p_Mode_number) "__get__" = some (some (.builtin "property.__get__")))
    (ta_Mode_number : PySem.W.takesIn K (.ref p_Mode_number) = some true)
    (rc_Mode_number : PySem.W.recIn K p_Mode_number "property" = some (.ref f_Mode_number :: re_Mode_number))
    (l_Mode_number : K.lookup f_Mode_number = some ⟨oc_Mode_number, od_Mode_number, .func (PySem.W.fnOf "number" "Mode.number" (defArgs s_Mode_number) (defBody s_Mode_number) (defScope s_Mode_number) .none kV_Mode_number dc_Mode_number pm_Mode_number an_Mode_number cd_Mode_number ct_Mode_number), sl_Mode_number⟩)
    (co_Mode_number : PySem.W.codeIn K cd_Mode_number "Mode.number" = true)
    (kp_Mode_number : PySem.W.keepIn K (.ref f_Mode_number) = true)
    (at_Mode_digits : PySem.W.findIn K (.ref f_Mode) "digits" = some (some (.ref p_Mode_digits)))
    (ge_Mode_digits : PySem.W.specialIn K (.ref p_Mode_digits) "__get__" = some (some (.builtin "property.__get__")))
    (ta_Mode_digits : PySem.W.takesIn K (.ref p_Mode_digits) = some true)
    (rc_Mode_digits : PySem.W.recIn K p_Mode_digits "property" = some (.ref f_Mode_digits :: re_Mode_digits))
    (l_Mode_digits : K.lookup f_Mode_digits = some ⟨oc_Mode_digits, od_Mode_digits, .func (PySem.W.fnOf "digits" "Mode.digits" (defArgs s_Mode_digits) (defBody s_Mode_digits) (defScope s_Mode_digits) .none kV_Mode_digits dc_Mode_digits pm_Mode_digits an_Mode_digits cd_Mode_digits ct_Mode_digits), sl_Mode_digits⟩)
    (co_Mode_digits : PySem.W.codeIn K cd_Mode_digits "Mode.digits" = true)
    (kp_Mode_digits : PySem.W.keepIn K (.ref f_Mode_digits) = true)
    (at_ModeD_strD : PySem.W.findIn K (.ref f_Mode) "__str__" = some (some (.ref f_ModeD_strD)))
    (fi_ModeD_strD : PySem.W.isFn K (.ref f_ModeD_strD) = true)
    (l_ModeD_strD : K.lookup f_ModeD_strD = some ⟨oc_ModeD_strD, od_ModeD_strD, .func (PySem.W.fnOf "__str__" "Mode.__str__" (defArgs s_ModeD_strD) (defBody s_ModeD_strD) (defScope s_ModeD_strD) .none kV_ModeD_strD dc_ModeD_strD pm_ModeD_strD an_ModeD_strD cd_ModeD_strD ct_ModeD_strD), sl_ModeD_strD⟩)
    (co_ModeD_strD : PySem.W.codeIn K cd_ModeD_strD "Mode.__str__" = true)
    (kp_ModeD_strD : PySem.W.keepIn K (.ref f_ModeD_strD) = true)
    (at_ModeD_eqD : PySem.W.findIn K (.ref f_Mode) "__eq__" = some (some (.ref f_ModeD_eqD)))
    (fi_ModeD_eqD : PySem.W.isFn K (.ref f_ModeD_eqD) = true)
    (l_ModeD_eqD : K.lookup f_ModeD_eqD = some ⟨oc_ModeD_eqD, od_ModeD_eqD, .func (PySem.W.fnOf "__eq__" "Mode.__eq__" (defArgs s_ModeD_eqD) (defBody s_ModeD_eqD) (defScope s_ModeD_eqD) .none kV_ModeD_eqD dc_ModeD_eqD pm_ModeD_eqD an_ModeD_eqD cd_ModeD_eqD ct_ModeD_eqD), sl_ModeD_eqD⟩)
    (co_ModeD_eqD : PySem.W.codeIn K cd_ModeD_eqD "Mode.__eq__" = true)
    (kp_ModeD_eqD : PySem.W.keepIn K (.ref f_ModeD_eqD) = true)
    (rd_Mode : PySem.W.readsIn K f_Mode (.type "type") = true)
    (ga_Mode : PySem.W.specialIn K (.ref f_Mode) "__getattribute__" = some (some (.builtin "type.__getattribute__")))
    (cv_Mode_MOST : PySem.W.findCls K (.ref f_Mode) (.type "type") "MOST" = some (.val (.int 511 tk_Mode_MOST)))
    (ia_Mode : PySem.W.findIn K (.ref f_Mode) "__class__" = some (some (.builtin "object.__class__")))
    (im_Mode : PySem.W.mroIn K f_Mode (.type "object") = some true)
    (ci_Mode : PySem.W.clsIn K f_Mode = some cd_Mode)
    (ti_Mode : PySem.W.typeIn K (.ref f_Mode) = some (.type "type"))
    (su_Mode : PySem.W.subIn K (.type "int") (.ref f_Mode) = some false)
    (a_Clause : PySem.W.nsIn K mainGlobals "Clause" = some (some (.ref f_Clause)))
    (pg_Clause : PySem.W.plainGet K f_Clause Str.empty = true)
    (hd_Clause : PySem.W.hasDictIn K f_Clause = true)
    (po_Clause : PySem.W.plainOver K f_Clause = true)
    (sa_Clause : PySem.W.findIn K (.ref f_Clause) "__setattr__" = some (some (.builtin "object.__setattr__")))
    (n_who_Clause : PySem.W.findIn K (.ref f_Clause) "_who" = some none)
    (n_sign_Clause : PySem.W.findIn K (.ref f_Clause) "_sign" = some none)
    (n_what_Clause : PySem.W.findIn K (.ref f_Clause) "_what" = some none)
    (n_tables_Clause : PySem.W.findIn K (.ref f_Clause) "_tables" = some none)
    (at_ClauseD_initD : PySem.W.findIn K (.ref f_Clause) "__init__" = some (some (.ref f_ClauseD_initD)))
    (fi_ClauseD_initD : PySem.W.isFn K (.ref f_ClauseD_initD) = true)
    (l_ClauseD_initD : K.lookup f_ClauseD_initD = some ⟨oc_ClauseD_initD, od_ClauseD_initD, .func (PySem.W.fnOf "__init__" "Clause.__init__" (defArgs s_ClauseD_initD) (defBody s_ClauseD_initD) (defScope s_ClauseD_initD) .none kV_ClauseD_initD dc_ClauseD_initD pm_ClauseD_initD an_ClauseD_initD cd_ClauseD_initD ct_ClauseD_initD), sl_ClauseD_initD⟩)
    (co_ClauseD_initD : PySem.W.codeIn K cd_ClauseD_initD "Clause.__init__" = true)
    (kp_ClauseD_initD : PySem.W.keepIn K (.ref f_ClauseD_initD) = true)
    (mk_Clause : PySem.W.makesIn K f_Clause = true)
    (kc_Clause : PySem.W.keepIn K (.ref f_Clause) = true)
    (at_Clause_who : PySem.W.findIn K (.ref f_Clause) "who" = some (some (.ref p_Clause_who)))
    (ge_Clause_who : PySem.W.specialIn K (.ref p_Clause_who) "__get__" = some (some (.builtin "property.__get__")))
    (ta_Clause_who : PySem.W.takesIn K (.ref p_Clause_who) = some true)
    (rc_Clause_who : PySem.W.recIn K p_Clause_who "property" = some (.ref f_Clause_who :: re_Clause_who))
    (l_Clause_who : K.lookup f_Clause_who = some ⟨oc_Clause_who, od_Clause_who, .func (PySem.W.fnOf "who" "Clause.who" (defArgs s_Clause_who) (defBody s_Clause_who) (defScope s_Clause_who) .none kV_Clause_who dc_Clause_who pm_Clause_who an_Clause_who cd_Clause_who ct_Clause_who), sl_Clause_who⟩)
    (co_Clause_who : PySem.W.codeIn K cd_Clause_who "Clause.who" = true)
    (kp_Clause_who : PySem.W.keepIn K (.ref f_Clause_who) = true)
    (at_Clause_sign : PySem.W.findIn K (.ref f_Clause) "sign" = some (some (.ref p_Clause_sign)))
    (ge_Clause_sign : PySem.W.specialIn K (.ref p_Clause_sign) "__get__" = some (some (.builtin "property.__get__")))
    (ta_Clause_sign : PySem.W.takesIn K (.ref p_Clause_sign) = some true)
    (rc_Clause_sign : PySem.W.recIn K p_Clause_sign "property" = some (.ref f_Clause_sign :: re_Clause_sign))
    (l_Clause_sign : K.lookup f_Clause_sign = some ⟨oc_Clause_sign, od_Clause_sign, .func (PySem.W.fnOf "sign" "Clause.sign" (defArgs s_Clause_sign) (defBody s_Clause_sign) (defScope s_Clause_sign) .none kV_Clause_sign dc_Clause_sign pm_Clause_sign an_Clause_sign cd_Clause_sign ct_Clause_sign), sl_Clause_sign⟩)
    (co_Clause_sign : PySem.W.codeIn K cd_Clause_sign "Clause.sign" = true)
    (kp_Clause_sign : PySem.W.keepIn K (.ref f_Clause_sign) = true)
    (at_Clause_what : PySem.W.findIn K (.ref f_Clause) "what" = some (some (.ref p_Clause_what)))
    (ge_Clause_what : PySem.W.specialIn K (.ref p_Clause_what) "__get__" = some (some (.builtin "property.__get__")))
    (ta_Clause_what : PySem.W.takesIn K (.ref p_Clause_what) = some true)
    (rc_Clause_what : PySem.W.recIn K p_Clause_what "property" = some (.ref f_Clause_what :: re_Clause_what))
    (l_Clause_what : K.lookup f_Clause_what = some ⟨oc_Clause_what, od_Clause_what, .func (PySem.W.fnOf "what" "Clause.what" (defArgs s_Clause_what) (defBody s_Clause_what) (defScope s_Clause_what) .none kV_Clause_what dc_Clause_what pm_Clause_what an_Clause_what cd_Clause_what ct_Clause_what), sl_Clause_what⟩)
    (co_Clause_what : PySem.W.codeIn K cd_Clause_what "Clause.what" = true)
    (kp_Clause_what : PySem.W.keepIn K (.ref f_Clause_what) = true)
    (at_ClauseD_strD : PySem.W.findIn K (.ref f_Clause) "__str__" = some (some (.ref f_ClauseD_strD)))
    (fi_ClauseD_strD : PySem.W.isFn K (.ref f_ClauseD_strD) = true)
    (l_ClauseD_strD : K.lookup f_ClauseD_strD = some ⟨oc_ClauseD_strD, od_ClauseD_strD, .func (PySem.W.fnOf "__str__" "Clause.__str__" (defArgs s_ClauseD_strD) (defBody s_ClauseD_strD) (defScope s_ClauseD_strD) .none kV_ClauseD_strD dc_ClauseD_strD pm_ClauseD_strD an_ClauseD_strD cd_ClauseD_strD ct_ClauseD_strD), sl_ClauseD_strD⟩)
    (co_ClauseD_strD : PySem.W.codeIn K cd_ClauseD_strD "Clause.__str__" = true)
    (kp_ClauseD_strD : PySem.W.keepIn K (.ref f_ClauseD_strD) = true)
    (at_ClauseD_eqD : PySem.W.findIn K (.ref f_Clause) "__eq__" = some (some (.ref f_ClauseD_eqD)))
    (fi_ClauseD_eqD : PySem.W.isFn K (.ref f_ClauseD_eqD) = true)
    (l_ClauseD_eqD : K.lookup f_ClauseD_eqD = some ⟨oc_ClauseD_eqD, od_ClauseD_eqD, .func (PySem.W.fnOf "__eq__" "Clause.__eq__" (defArgs s_ClauseD_eqD) (defBody s_ClauseD_eqD) (defScope s_ClauseD_eqD) .none kV_ClauseD_eqD dc_ClauseD_eqD pm_ClauseD_eqD an_ClauseD_eqD cd_ClauseD_eqD ct_ClauseD_eqD), sl_ClauseD_eqD⟩)
    (co_ClauseD_eqD : PySem.W.codeIn K cd_ClauseD_eqD "Clause.__eq__" = true)
    (kp_ClauseD_eqD : PySem.W.keepIn K (.ref f_ClauseD_eqD) = true)
    (at_ClauseD_callD : PySem.W.findIn K (.ref f_Clause) "__call__" = some (some (.ref f_ClauseD_callD)))
    (fi_ClauseD_callD : PySem.W.isFn K (.ref f_ClauseD_callD) = true)
    (fm_ClauseD_callD : PySem.W.fnIn K f_ClauseD_callD = true)
    (l_ClauseD_callD : K.lookup f_ClauseD_callD = some ⟨oc_ClauseD_callD, od_ClauseD_callD, .func (PySem.W.fnOf "__call__" "Clause.__call__" (defArgs s_ClauseD_callD) (defBody s_ClauseD_callD) (defScope s_ClauseD_callD) .none kV_ClauseD_callD dc_ClauseD_callD pm_ClauseD_callD an_ClauseD_callD cd_ClauseD_callD ct_ClauseD_callD), sl_ClauseD_callD⟩)
    (co_ClauseD_callD : PySem.W.codeIn K cd_ClauseD_callD "Clause.__call__" = true)
    (kp_ClauseD_callD : PySem.W.keepIn K (.ref f_ClauseD_callD) = true)
    (at_Clause_read : PySem.W.findCls K (.ref f_Clause) (.type "type") "read" = some (.get (.builtin "classmethod.__get__") (.ref p_Clause_read) .none (.ref f_Clause)))
    (rc_Clause_read : PySem.W.recIn K p_Clause_read "classmethod" = some (.ref f_Clause_read :: re_Clause_read))
    (fm_Clause_read : PySem.W.fnIn K f_Clause_read = true)
    (l_Clause_read : K.lookup f_Clause_read = some ⟨oc_Clause_read, od_Clause_read, .func (PySem.W.fnOf "read" "Clause.read" (defArgs s_Clause_read) (defBody s_Clause_read) (defScope s_Clause_read) .none kV_Clause_read dc_Clause_read pm_Clause_read an_Clause_read cd_Clause_read ct_Clause_read), sl_Clause_read⟩)
    (co_Clause_read : PySem.W.codeIn K cd_Clause_read "Clause.read" = true)
    (kp_Clause_read : PySem.W.keepIn K (.ref f_Clause_read) = true)
    (rd_Clause : PySem.W.readsIn K f_Clause (.type "type") = true)
    (ga_Clause : PySem.W.specialIn K (.ref f_Clause) "__getattribute__" = some (some (.builtin "type.__getattribute__")))
    (ia_Clause : PySem.W.findIn K (.ref f_Clause) "__class__" = some (some (.builtin "object.__class__")))
    (im_Clause : PySem.W.mroIn K f_Clause (.type "object") = some true)
    (ci_Clause : PySem.W.clsIn K f_Clause = some cd_Clause)
    (ti_Clause : PySem.W.typeIn K (.ref f_Clause) = some (.type "type"))
    (su_Clause : PySem.W.subIn K (.type "int") (.ref f_Clause) = some false)
    (a_Change : PySem.W.nsIn K mainGlobals "Change" = some (some (.ref f_Change)))
    (pg_Change : PySem.W.plainGet K f_Change Str.empty = true)
    (hd_Change : PySem.W.hasDictIn K f_Change = true)
    (po_Change : PySem.W.plainOver K f_Change = true)
    (sa_Change : PySem.W.findIn K (.ref f_Change) "__setattr__" = some (some (.builtin "object.__setattr__")))
    (n_clauses_Change : PySem.W.findIn K (.ref f_Change) "_clauses" = some none)
    (n_tables_Change : PySem.W.findIn K (.ref f_Change) "_tables" = some none)
    (at_ChangeD_initD : PySem.W.findIn K (.ref f_Change) "__init__" = some (some (.ref f_ChangeD_initD)))
    (fi_ChangeD_initD : PySem.W.isFn K (.ref f_ChangeD_initD) = true)
    (l_ChangeD_initD : K.lookup f_ChangeD_initD = some ⟨oc_ChangeD_initD, od_ChangeD_initD, .func (PySem.W.fnOf "__init__" "Change.__init__" (defArgs s_ChangeD_initD) (defBody s_ChangeD_initD) (defScope s_ChangeD_initD) .none kV_ChangeD_initD dc_ChangeD_initD pm_ChangeD_initD an_ChangeD_initD cd_ChangeD_initD ct_ChangeD_initD), sl_ChangeD_initD⟩)
    (co_ChangeD_initD : PySem.W.codeIn K cd_ChangeD_initD "Change.__init__" = true)
    (kp_ChangeD_initD : PySem.W.keepIn K (.ref f_ChangeD_initD) = true)
    (mk_Change : PySem.W.makesIn K f_Change = true)
    (kc_Change : PySem.W.keepIn K (.ref f_Change) = true)
    (at_Change_clauses : PySem.W.findIn K (.ref f_Change) "clauses" = some (some (.ref p_Change_clauses)))
    (ge_Change_clauses : PySem.W.specialIn K (.ref p_Change_clauses) "__get__" = some (some (.builtin "property.__get__")))
    (ta_Change_clauses : PySem.W.takesIn K (.ref p_Change_clauses) = some true)
    (rc_Change_clauses : PySem.W.recIn K p_Change_clauses "property" = some (.ref f_Change_clauses :: re_Change_clauses))
    (l_Change_clauses : K.lookup f_Change_clauses = some ⟨oc_Change_clauses, od_Change_clauses, .func (PySem.W.fnOf "clauses" "Change.clauses" (defArgs s_Change_clauses) (defBody s_Change_clauses) (defScope s_Change_clauses) .none kV_Change_clauses dc_Change_clauses pm_Change_clauses an_Change_clauses cd_Change_clauses ct_Change_clauses), sl_Change_clauses⟩)
    (co_Change_clauses : PySem.W.codeIn K cd_Change_clauses "Change.clauses" = true)
    (kp_Change_clauses : PySem.W.keepIn K (.ref f_Change_clauses) = true)
    (at_Change_tables : PySem.W.findIn K (.ref f_Change) "tables" = some (some (.ref p_Change_tables)))
    (ge_Change_tables : PySem.W.specialIn K (.ref p_Change_tables) "__get__" = some (some (.builtin "property.__get__")))
    (ta_Change_tables : PySem.W.takesIn K (.ref p_Change_tables) = some true)
    (rc_Change_tables : PySem.W.recIn K p_Change_tables "property" = some (.ref f_Change_tables :: re_Change_tables))
    (l_Change_tables : K.lookup f_Change_tables = some ⟨oc_Change_tables, od_Change_tables, .func (PySem.W.fnOf "tables" "Change.tables" (defArgs s_Change_tables) (defBody s_Change_tables) (defScope s_Change_tables) .none kV_Change_tables dc_Change_tables pm_Change_tables an_Change_tables cd_Change_tables ct_Change_tables), sl_Change_tables⟩)
    (co_Change_tables : PySem.W.codeIn K cd_Change_tables "Change.tables" = true)
    (kp_Change_tables : PySem.W.keepIn K (.ref f_Change_tables) = true)
    (at_Change_cycle : PySem.W.findIn K (.ref f_Change) "cycle" = some (some (.ref f_Change_cycle)))
    (fi_Change_cycle : PySem.W.isFn K (.ref f_Change_cycle) = true)
    (l_Change_cycle : K.lookup f_Change_cycle = some ⟨oc_Change_cycle, od_Change_cycle, .func (PySem.W.fnOf "cycle" "Change.cycle" (defArgs s_Change_cycle) (defBody s_Change_cycle) (defScope s_Change_cycle) .none kV_Change_cycle dc_Change_cycle pm_Change_cycle an_Change_cycle cd_Change_cycle ct_Change_cycle), sl_Change_cycle⟩)
    (co_Change_cycle : PySem.W.codeIn K cd_Change_cycle "Change.cycle" = true)
    (kp_Change_cycle : PySem.W.keepIn K (.ref f_Change_cycle) = true)
    (at_ChangeD_strD : PySem.W.findIn K (.ref f_Change) "__str__" = some (some (.ref f_ChangeD_strD)))
    (fi_ChangeD_strD : PySem.W.isFn K (.ref f_ChangeD_strD) = true)
    (l_ChangeD_strD : K.lookup f_ChangeD_strD = some ⟨oc_ChangeD_strD, od_ChangeD_strD, .func (PySem.W.fnOf "__str__" "Change.__str__" (defArgs s_ChangeD_strD) (defBody s_ChangeD_strD) (defScope s_ChangeD_strD) .none kV_ChangeD_strD dc_ChangeD_strD pm_ChangeD_strD an_ChangeD_strD cd_ChangeD_strD ct_ChangeD_strD), sl_ChangeD_strD⟩)
    (co_ChangeD_strD : PySem.W.codeIn K cd_ChangeD_strD "Change.__str__" = true)
    (kp_ChangeD_strD : PySem.W.keepIn K (.ref f_ChangeD_strD) = true)
    (at_ChangeD_eqD : PySem.W.findIn K (.ref f_Change) "__eq__" = some (some (.ref f_ChangeD_eqD)))
    (fi_ChangeD_eqD : PySem.W.isFn K (.ref f_ChangeD_eqD) = true)
    (l_ChangeD_eqD : K.lookup f_ChangeD_eqD = some ⟨oc_ChangeD_eqD, od_ChangeD_eqD, .func (PySem.W.fnOf "__eq__" "Change.__eq__" (defArgs s_ChangeD_eqD) (defBody s_ChangeD_eqD) (defScope s_ChangeD_eqD) .none kV_ChangeD_eqD dc_ChangeD_eqD pm_ChangeD_eqD an_ChangeD_eqD cd_ChangeD_eqD ct_ChangeD_eqD), sl_ChangeD_eqD⟩)
    (co_ChangeD_eqD : PySem.W.codeIn K cd_ChangeD_eqD "Change.__eq__" = true)
    (kp_ChangeD_eqD : PySem.W.keepIn K (.ref f_ChangeD_eqD) = true)
    (rd_Change : PySem.W.readsIn K f_Change (.type "type") = true)
    (ga_Change : PySem.W.specialIn K (.ref f_Change) "__getattribute__" = some (some (.builtin "type.__getattribute__")))
    (cv_Change_MOST : PySem.W.findCls K (.ref f_Change) (.type "type") "MOST" = some (.val (.int 8 tk_Change_MOST)))
    (at_ChangeD_callD : PySem.W.findIn K (.ref f_Change) "__call__" = some (some (.ref f_ChangeD_callD)))
    (fi_ChangeD_callD : PySem.W.isFn K (.ref f_ChangeD_callD) = true)
    (fm_ChangeD_callD : PySem.W.fnIn K f_ChangeD_callD = true)
    (l_ChangeD_callD : K.lookup f_ChangeD_callD = some ⟨oc_ChangeD_callD, od_ChangeD_callD, .func (PySem.W.fnOf "__call__" "Change.__call__" (defArgs s_ChangeD_callD) (defBody s_ChangeD_callD) (defScope s_ChangeD_callD) .none kV_ChangeD_callD dc_ChangeD_callD pm_ChangeD_callD an_ChangeD_callD cd_ChangeD_callD ct_ChangeD_callD), sl_ChangeD_callD⟩)
    (co_ChangeD_callD : PySem.W.codeIn K cd_ChangeD_callD "Change.__call__" = true)
    (kp_ChangeD_callD : PySem.W.keepIn K (.ref f_ChangeD_callD) = true)
    (at_Change_setting : PySem.W.findCls K (.ref f_Change) (.type "type") "setting" = some (.get (.builtin "staticmethod.__get__") (.ref p_Change_setting) .none (.ref f_Change)))
    (rc_Change_setting : PySem.W.recIn K p_Change_setting "staticmethod" = some (.ref f_Change_setting :: re_Change_setting))
    (l_Change_setting : K.lookup f_Change_setting = some ⟨oc_Change_setting, od_Change_setting, .func (PySem.W.fnOf "setting" "Change.setting" (defArgs s_Change_setting) (defBody s_Change_setting) (defScope s_Change_setting) .none kV_Change_setting dc_Change_setting pm_Change_setting an_Change_setting cd_Change_setting ct_Change_setting), sl_Change_setting⟩)
    (co_Change_setting : PySem.W.codeIn K cd_Change_setting "Change.setting" = true)
    (kp_Change_setting : PySem.W.keepIn K (.ref f_Change_setting) = true)
    (at_Change_read : PySem.W.findCls K (.ref f_Change) (.type "type") "read" = some (.get (.builtin "classmethod.__get__") (.ref p_Change_read) .none (.ref f_Change)))
    (rc_Change_read : PySem.W.recIn K p_Change_read "classmethod" = some (.ref f_Change_read :: re_Change_read))
    (fm_Change_read : PySem.W.fnIn K f_Change_read = true)
    (l_Change_read : K.lookup f_Change_read = some ⟨oc_Change_read, od_Change_read, .func (PySem.W.fnOf "read" "Change.read" (defArgs s_Change_read) (defBody s_Change_read) (defScope s_Change_read) .none kV_Change_read dc_Change_read pm_Change_read an_Change_read cd_Change_read ct_Change_read), sl_Change_read⟩)
    (co_Change_read : PySem.W.codeIn K cd_Change_read "Change.read" = true)
    (kp_Change_read : PySem.W.keepIn K (.ref f_Change_read) = true)
    (ia_Change : PySem.W.findIn K (.ref f_Change) "__class__" = some (some (.builtin "object.__class__")))
    (im_Change : PySem.W.mroIn K f_Change (.type "object") = some true)
    (ci_Change : PySem.W.clsIn K f_Change = some cd_Change)
    (ti_Change : PySem.W.typeIn K (.ref f_Change) = some (.type "type"))
    (su_Change : PySem.W.subIn K (.type "int") (.ref f_Change) = some false)
    (in0 : PySem.W.specialIn K (.builtin "object.__class__") "__get__" = some (some (.builtin "getset_descriptor.__get__")))
    (it0 : PySem.W.takesIn K (.builtin "object.__class__") = some true)
    (a_SIGNS : PySem.W.nsIn K mainGlobals "SIGNS" = some (some (.ref k_SIGNS)))
    (lt_SIGNS : K.lookup k_SIGNS = some ⟨.type "tuple", tod_SIGNS, .seq its_SIGNS tn_SIGNS, tsl_SIGNS⟩)
    (sz_SIGNS : its_SIGNS.size ≤ sizeLine)
    (vl_SIGNS : Vals [.str "+", .str "-", .str "="] its_SIGNS.toList)
    (a_PATTERNS : PySem.W.nsIn K mainGlobals "PATTERNS" = some (some (.ref k_PATTERNS)))
    (lt_PATTERNS : K.lookup k_PATTERNS = some ⟨.type "tuple", tod_PATTERNS, .seq its_PATTERNS tn_PATTERNS, tsl_PATTERNS⟩)
    (sz_PATTERNS : its_PATTERNS.size ≤ sizeLine)
    (vl_PATTERNS : Vals ([0, 1, 2, 3, 4, 5, 6, 7].map V.int) its_PATTERNS.toList)
    (a_NINE_BITS : PySem.W.nsIn K mainGlobals "NINE_BITS" = some (some (.ref k_NINE_BITS)))
    (lt_NINE_BITS : K.lookup k_NINE_BITS = some ⟨.type "tuple", tod_NINE_BITS, .seq its_NINE_BITS tn_NINE_BITS, tsl_NINE_BITS⟩)
    (sz_NINE_BITS : its_NINE_BITS.size ≤ sizeLine)
    (vl_NINE_BITS : Vals ([256, 128, 64, 32, 16, 8, 4, 2, 1].map V.int) its_NINE_BITS.toList)
    (a_NINE_SIGNS : PySem.W.nsIn K mainGlobals "NINE_SIGNS" = some (some (.str "rwxrwxrwx" tk_NS)))
    (a_PARTS : PySem.W.nsIn K mainGlobals "PARTS" = some (some (.ref k_PARTS)))
    (lt_PARTS : K.lookup k_PARTS = some ⟨.type "tuple", tod_PARTS, .seq its_PARTS tn_PARTS, tsl_PARTS⟩)
    (sz_PARTS : its_PARTS.size ≤ sizeLine)
    (vl_PARTS : Vals [.ref k_P1, .ref k_P2, .ref k_P3, .ref k_P4] its_PARTS.toList)
    (lt_P1 : K.lookup k_P1 = some ⟨.type "tuple", tod_P1, .seq its_P1 tn_P1, tsl_P1⟩)
    (sz_P1 : its_P1.size ≤ sizeLine)
    (vl_P1 : Vals [.str "r", .str "file"] its_P1.toList)
    (lt_P2 : K.lookup k_P2 = some ⟨.type "tuple", tod_P2, .seq its_P2 tn_P2, tsl_P2⟩)
    (sz_P2 : its_P2.size ≤ sizeLine)
    (vl_P2 : Vals [.str "w", .str "file"] its_P2.toList)
    (lt_P3 : K.lookup k_P3 = some ⟨.type "tuple", tod_P3, .seq its_P3 tn_P3, tsl_P3⟩)
    (sz_P3 : its_P3.size ≤ sizeLine)
    (vl_P3 : Vals [.str "x", .str "file"] its_P3.toList)
    (lt_P4 : K.lookup k_P4 = some ⟨.type "tuple", tod_P4, .seq its_P4 tn_P4, tsl_P4⟩)
    (sz_P4 : its_P4.size ≤ sizeLine)
    (vl_P4 : Vals [.str "x", .str "folder"] its_P4.toList)
    (a_BadClause : PySem.W.nsIn K mainGlobals "BadClause" = some (some (.ref x_BadClause)))
    (nf_Mode : PySem.W.notFirst K f_Mode (.ref f_Mode) = true)
    (a_CLASSES : PySem.W.nsIn K mainGlobals "CLASSES" = some (some (.ref k_CLASSES)))
    (ld_CL : K.lookup k_CLASSES = some ⟨.type "dict", none, .dict es_CL n_CL, #[]⟩)
    (kl_CL : PySem.W.KeysLit w.params es_CL.toList)
    (lw_CL : (k_CLASSES == sysModules) = false)
    (eu_CL : PySem.W.nsIn K k_CLASSES "u" = some (some (.int 4 tku)))
    (eg_CL : PySem.W.nsIn K k_CLASSES "g" = some (some (.int 2 tkg)))
    (eo_CL : PySem.W.nsIn K k_CLASSES "o" = some (some (.int 1 tko)))
    (w0_CL : PySem.W.nsIn K k_CLASSES "r" = some none)
    (w1_CL : PySem.W.nsIn K k_CLASSES "w" = some none)
    (w2_CL : PySem.W.nsIn K k_CLASSES "x" = some none)
    (w3_CL : PySem.W.nsIn K k_CLASSES "X" = some none)
    (w4_CL : PySem.W.nsIn K k_CLASSES "rX" = some none)
    (w5_CL : PySem.W.nsIn K k_CLASSES "rwx" = some none)
    (w6_CL : PySem.W.nsIn K k_CLASSES "rwX" = some none)
    (w7_CL : PySem.W.nsIn K k_CLASSES "wx" = some none)
    (w8_CL : PySem.W.nsIn K k_CLASSES "rx" = some none)
    (w9_CL : PySem.W.nsIn K k_CLASSES "" = some none)
    (w10_CL : PySem.W.nsIn K k_CLASSES "xX" = some none)
    (w11_CL : PySem.W.nsIn K k_CLASSES "rwxX" = some none)
    (w12_CL : PySem.W.nsIn K k_CLASSES "rw" = some none)
    (a_WEIGHTS : PySem.W.nsIn K mainGlobals "WEIGHTS" = some (some (.ref k_WEIGHTS)))
    (ld_WG : K.lookup k_WEIGHTS = some ⟨.type "dict", none, .dict es_WG n_WG, #[]⟩)
    (kl_WG : PySem.W.KeysLit w.params es_WG.toList)
    (lw_WG : (k_WEIGHTS == sysModules) = false)
    (er_WG : PySem.W.nsIn K k_WEIGHTS "r" = some (some (.int 4 tkr)))
    (ew_WG : PySem.W.nsIn K k_WEIGHTS "w" = some (some (.int 2 tkw)))
    (ex_WG : PySem.W.nsIn K k_WEIGHTS "x" = some (some (.int 1 tkx)))
    : ∃ fd : FuncData, (∀ (s : Shared) (v : Value), BindsTo s fd ⟨[v], []⟩ [("_law_script", v)]) ∧ ∀ base : Heap, K.In base → base.Ns mainGlobals mg → RunAt l.prog w K mg base callerA fa fd ["_law_script"] (spLaw K) := by
  have e := hfa.symm.trans (PySem.W.mg_of X G a_law)
  obtain rfl : f_law = fa := by cases e; rfl
  have T : Txt w K mg { f_is_whole := f_is_whole, d_is_whole := PySem.W.fnOf "is_whole" "is_whole" (defArgs s_is_whole) (defBody s_is_whole) (defScope s_is_whole) .none kV_is_whole dc_is_whole pm_is_whole an_is_whole cd_is_whole ct_is_whole, f_is_whole_to := f_is_whole_to, d_is_whole_to := PySem.W.fnOf "is_whole_to" "is_whole_to" (defArgs s_is_whole_to) (defBody s_is_whole_to) (defScope s_is_whole_to) .none kV_is_whole_to dc_is_whole_to pm_is_whole_to an_is_whole_to cd_is_whole_to ct_is_whole_to, f_is_choice := f_is_choice, d_is_choice := PySem.W.fnOf "is_choice" "is_choice" (defArgs s_is_choice) (defBody s_is_choice) (defScope s_is_choice) .none kV_is_choice dc_is_choice pm_is_choice an_is_choice cd_is_choice ct_is_choice, f_pattern_in := f_pattern_in, d_pattern_in := PySem.W.fnOf "pattern_in" "pattern_in" (defArgs s_pattern_in) (defBody s_pattern_in) (defScope s_pattern_in) .none kV_pattern_in dc_pattern_in pm_pattern_in an_pattern_in cd_pattern_in ct_pattern_in, f_bits_of := f_bits_of, d_bits_of := PySem.W.fnOf "bits_of" "bits_of" (defArgs s_bits_of) (defBody s_bits_of) (defScope s_bits_of) .none kV_bits_of dc_bits_of pm_bits_of an_bits_of cd_bits_of ct_bits_of, f_number_of := f_number_of, d_number_of := PySem.W.fnOf "number_of" "number_of" (defArgs s_number_of) (defBody s_number_of) (defScope s_number_of) .none kV_number_of dc_number_of pm_number_of an_number_of cd_number_of ct_number_of, f_is_meant := f_is_meant, d_is_meant := PySem.W.fnOf "is_meant" "is_meant" (defArgs s_is_meant) (defBody s_is_meant) (defScope s_is_meant) .none kV_is_meant dc_is_meant pm_is_meant an_is_meant cd_is_meant ct_is_meant, f_pattern_behind := f_pattern_behind, d_pattern_behind := PySem.W.fnOf "pattern_behind" "pattern_behind" (defArgs s_pattern_behind) (defBody s_pattern_behind) (defScope s_pattern_behind) .none kV_pattern_behind dc_pattern_behind pm_pattern_behind an_pattern_behind cd_pattern_behind ct_pattern_behind, f_part_of := f_part_of, d_part_of := PySem.W.fnOf "part_of" "part_of" (defArgs s_part_of) (defBody s_part_of) (defScope s_part_of) .none kV_part_of dc_part_of pm_part_of an_part_of cd_part_of ct_part_of, f_parts_for := f_parts_for, d_parts_for := PySem.W.fnOf "parts_for" "parts_for" (defArgs s_parts_for) (defBody s_parts_for) (defScope s_parts_for) .none kV_parts_for dc_parts_for pm_parts_for an_parts_for cd_parts_for ct_parts_for, f_number_behind := f_number_behind, d_number_behind := PySem.W.fnOf "number_behind" "number_behind" (defArgs s_number_behind) (defBody s_number_behind) (defScope s_number_behind) .none kV_number_behind dc_number_behind pm_number_behind an_number_behind cd_number_behind ct_number_behind, f__law_pen := f__law_pen, d__law_pen := PySem.W.fnOf "_law_pen" "_law_pen" (defArgs s__law_pen) (defBody s__law_pen) (defScope s__law_pen) .none kV__law_pen dc__law_pen pm__law_pen an__law_pen cd__law_pen ct__law_pen, f__law_draw := f__law_draw, d__law_draw := PySem.W.fnOf "_law_draw" "_law_draw" (defArgs s__law_draw) (defBody s__law_draw) (defScope s__law_draw) .none kV__law_draw dc__law_draw pm__law_draw an__law_draw cd__law_draw ct__law_draw, f__law_pick := f__law_pick, d__law_pick := PySem.W.fnOf "_law_pick" "_law_pick" (defArgs s__law_pick) (defBody s__law_pick) (defScope s__law_pick) .none kV__law_pick dc__law_pick pm__law_pick an__law_pick cd__law_pick ct__law_pick, f__law_clause := f__law_clause, d__law_clause := PySem.W.fnOf "_law_clause" "_law_clause" (defArgs s__law_clause) (defBody s__law_clause) (defScope s__law_clause) .none kV__law_clause dc__law_clause pm__law_clause an__law_clause cd__law_clause ct__law_clause, f__law_clause_done := f__law_clause_done, d__law_clause_done := PySem.W.fnOf "_law_clause_done" "_law_clause_done" (defArgs s__law_clause_done) (defBody s__law_clause_done) (defScope s__law_clause_done) .none kV__law_clause_done dc__law_clause_done pm__law_clause_done an__law_clause_done cd__law_clause_done ct__law_clause_done, f__law_mode := f__law_mode, d__law_mode := PySem.W.fnOf "_law_mode" "_law_mode" (defArgs s__law_mode) (defBody s__law_mode) (defScope s__law_mode) .none kV__law_mode dc__law_mode pm__law_mode an__law_mode cd__law_mode ct__law_mode, f_law := f_law, d_law := PySem.W.fnOf "law" "law" (defArgs s_law) (defBody s_law) (defScope s_law) .none kV_law dc_law pm_law an_law cd_law ct_law, f_in_turn := f_in_turn, d_in_turn := PySem.W.fnOf "in_turn" "in_turn" (defArgs s_in_turn) (defBody s_in_turn) (defScope s_in_turn) .none kV_in_turn dc_in_turn pm_in_turn an_in_turn cd_in_turn ct_in_turn, f_tables_of := f_tables_of, d_tables_of := PySem.W.fnOf "tables_of" "tables_of" (defArgs s_tables_of) (defBody s_tables_of) (defScope s_tables_of) .none kV_tables_of dc_tables_of pm_tables_of an_tables_of cd_tables_of ct_tables_of, f_letters_of := f_letters_of, d_letters_of := PySem.W.fnOf "letters_of" "letters_of" (defArgs s_letters_of) (defBody s_letters_of) (defScope s_letters_of) .none kV_letters_of dc_letters_of pm_letters_of an_letters_of cd_letters_of ct_letters_of, f__law_text := f__law_text, d__law_text := PySem.W.fnOf "_law_text" "_law_text" (defArgs s__law_text) (defBody s__law_text) (defScope s__law_text) .none kV__law_text dc__law_text pm__law_text an__law_text cd__law_text ct__law_text, f__law_change := f__law_change, d__law_change := PySem.W.fnOf "_law_change" "_law_change" (defArgs s__law_change) (defBody s__law_change) (defScope s__law_change) .none kV__law_change dc__law_change pm__law_change an__law_change cd__law_change ct__law_change, f__law_change_text := f__law_change_text, d__law_change_text := PySem.W.fnOf "_law_change_text" "_law_change_text" (defArgs s__law_change_text) (defBody s__law_change_text) (defScope s__law_change_text) .none kV__law_change_text dc__law_change_text pm__law_change_text an__law_change_text cd__law_change_text ct__law_change_text, f__law_change_done := f__law_change_done, d__law_change_done := PySem.W.fnOf "_law_change_done" "_law_change_done" (defArgs s__law_change_done) (defBody s__law_change_done) (defScope s__law_change_done) .none kV__law_change_done dc__law_change_done pm__law_change_done an__law_change_done cd__law_change_done ct__law_change_done, f__law_cycle := f__law_cycle, d__law_cycle := PySem.W.fnOf "_law_cycle" "_law_cycle" (defArgs s__law_cycle) (defBody s__law_cycle) (defScope s__law_cycle) .none kV__law_cycle dc__law_cycle pm__law_cycle an__law_cycle cd__law_cycle ct__law_cycle, f__law_times := f__law_times, d__law_times := PySem.W.fnOf "_law_times" "_law_times" (defArgs s__law_times) (defBody s__law_times) (defScope s__law_times) .none kV__law_times dc__law_times pm__law_times an__law_times cd__law_times ct__law_times, f__law_letters := f__law_letters, d__law_letters := PySem.W.fnOf "_law_letters" "_law_letters" (defArgs s__law_letters) (defBody s__law_letters) (defScope s__law_letters) .none kV__law_letters dc__law_letters pm__law_letters an__law_letters cd__law_letters ct__law_letters, f_Mode := f_Mode, f_ModeD_initD := f_ModeD_initD, d_ModeD_initD := PySem.W.fnOf "__init__" "Mode.__init__" (defArgs s_ModeD_initD) (defBody s_ModeD_initD) (defScope s_ModeD_initD) .none kV_ModeD_initD dc_ModeD_initD pm_ModeD_initD an_ModeD_initD cd_ModeD_initD ct_ModeD_initD, f_Mode_number := f_Mode_number, d_Mode_number := PySem.W.fnOf "number" "Mode.number" (defArgs s_Mode_number) (defBody s_Mode_number) (defScope s_Mode_number) .none kV_Mode_number dc_Mode_number pm_Mode_number an_Mode_number cd_Mode_number ct_Mode_number, p_Mode_number := p_Mode_number, f_Mode_digits := f_Mode_digits, d_Mode_digits := PySem.W.fnOf "digits" "Mode.digits" (defArgs s_Mode_digits) (defBody s_Mode_digits) (defScope s_Mode_digits) .none kV_Mode_digits dc_Mode_digits pm_Mode_digits an_Mode_digits cd_Mode_digits ct_Mode_digits, p_Mode_digits := p_Mode_digits, f_ModeD_strD := f_ModeD_strD, d_ModeD_strD := PySem.W.fnOf "__str__" "Mode.__str__" (defArgs s_ModeD_strD) (defBody s_ModeD_strD) (defScope s_ModeD_strD) .none kV_ModeD_strD dc_ModeD_strD pm_ModeD_strD an_ModeD_strD cd_ModeD_strD ct_ModeD_strD, f_ModeD_eqD := f_ModeD_eqD, d_ModeD_eqD := PySem.W.fnOf "__eq__" "Mode.__eq__" (defArgs s_ModeD_eqD) (defBody s_ModeD_eqD) (defScope s_ModeD_eqD) .none kV_ModeD_eqD dc_ModeD_eqD pm_ModeD_eqD an_ModeD_eqD cd_ModeD_eqD ct_ModeD_eqD, f_Clause := f_Clause, f_ClauseD_initD := f_ClauseD_initD, d_ClauseD_initD := PySem.W.fnOf "__init__" "Clause.__init__" (defArgs s_ClauseD_initD) (defBody s_ClauseD_initD) (defScope s_ClauseD_initD) .none kV_ClauseD_initD dc_ClauseD_initD pm_ClauseD_initD an_ClauseD_initD cd_ClauseD_initD ct_ClauseD_initD, f_Clause_who := f_Clause_who, d_Clause_who := PySem.W.fnOf "who" "Clause.who" (defArgs s_Clause_who) (defBody s_Clause_who) (defScope s_Clause_who) .none kV_Clause_who dc_Clause_who pm_Clause_who an_Clause_who cd_Clause_who ct_Clause_who, p_Clause_who := p_Clause_who, f_Clause_sign := f_Clause_sign, d_Clause_sign := PySem.W.fnOf "sign" "Clause.sign" (defArgs s_Clause_sign) (defBody s_Clause_sign) (defScope s_Clause_sign) .none kV_Clause_sign dc_Clause_sign pm_Clause_sign an_Clause_sign cd_Clause_sign ct_Clause_sign, p_Clause_sign := p_Clause_sign, f_Clause_what := f_Clause_what, d_Clause_what := PySem.W.fnOf "what" "Clause.what" (defArgs s_Clause_what) (defBody s_Clause_what) (defScope s_Clause_what) .none kV_Clause_what dc_Clause_what pm_Clause_what an_Clause_what cd_Clause_what ct_Clause_what, p_Clause_what := p_Clause_what, f_ClauseD_strD := f_ClauseD_strD, d_ClauseD_strD := PySem.W.fnOf "__str__" "Clause.__str__" (defArgs s_ClauseD_strD) (defBody s_ClauseD_strD) (defScope s_ClauseD_strD) .none kV_ClauseD_strD dc_ClauseD_strD pm_ClauseD_strD an_ClauseD_strD cd_ClauseD_strD ct_ClauseD_strD, f_ClauseD_eqD := f_ClauseD_eqD, d_ClauseD_eqD := PySem.W.fnOf "__eq__" "Clause.__eq__" (defArgs s_ClauseD_eqD) (defBody s_ClauseD_eqD) (defScope s_ClauseD_eqD) .none kV_ClauseD_eqD dc_ClauseD_eqD pm_ClauseD_eqD an_ClauseD_eqD cd_ClauseD_eqD ct_ClauseD_eqD, f_ClauseD_callD := f_ClauseD_callD, d_ClauseD_callD := PySem.W.fnOf "__call__" "Clause.__call__" (defArgs s_ClauseD_callD) (defBody s_ClauseD_callD) (defScope s_ClauseD_callD) .none kV_ClauseD_callD dc_ClauseD_callD pm_ClauseD_callD an_ClauseD_callD cd_ClauseD_callD ct_ClauseD_callD, f_Clause_read := f_Clause_read, d_Clause_read := PySem.W.fnOf "read" "Clause.read" (defArgs s_Clause_read) (defBody s_Clause_read) (defScope s_Clause_read) .none kV_Clause_read dc_Clause_read pm_Clause_read an_Clause_read cd_Clause_read ct_Clause_read, p_Clause_read := p_Clause_read, f_Change := f_Change, f_ChangeD_initD := f_ChangeD_initD, d_ChangeD_initD := PySem.W.fnOf "__init__" "Change.__init__" (defArgs s_ChangeD_initD) (defBody s_ChangeD_initD) (defScope s_ChangeD_initD) .none kV_ChangeD_initD dc_ChangeD_initD pm_ChangeD_initD an_ChangeD_initD cd_ChangeD_initD ct_ChangeD_initD, f_Change_clauses := f_Change_clauses, d_Change_clauses := PySem.W.fnOf "clauses" "Change.clauses" (defArgs s_Change_clauses) (defBody s_Change_clauses) (defScope s_Change_clauses) .none kV_Change_clauses dc_Change_clauses pm_Change_clauses an_Change_clauses cd_Change_clauses ct_Change_clauses, p_Change_clauses := p_Change_clauses, f_Change_tables := f_Change_tables, d_Change_tables := PySem.W.fnOf "tables" "Change.tables" (defArgs s_Change_tables) (defBody s_Change_tables) (defScope s_Change_tables) .none kV_Change_tables dc_Change_tables pm_Change_tables an_Change_tables cd_Change_tables ct_Change_tables, p_Change_tables := p_Change_tables, f_Change_cycle := f_Change_cycle, d_Change_cycle := PySem.W.fnOf "cycle" "Change.cycle" (defArgs s_Change_cycle) (defBody s_Change_cycle) (defScope s_Change_cycle) .none kV_Change_cycle dc_Change_cycle pm_Change_cycle an_Change_cycle cd_Change_cycle ct_Change_cycle, f_ChangeD_strD := f_ChangeD_strD, d_ChangeD_strD := PySem.W.fnOf "__str__" "Change.__str__" (defArgs s_ChangeD_strD) (defBody s_ChangeD_strD) (defScope s_ChangeD_strD) .none kV_ChangeD_strD dc_ChangeD_strD pm_ChangeD_strD an_ChangeD_strD cd_ChangeD_strD ct_ChangeD_strD, f_ChangeD_eqD := f_ChangeD_eqD, d_ChangeD_eqD := PySem.W.fnOf "__eq__" "Change.__eq__" (defArgs s_ChangeD_eqD) (defBody s_ChangeD_eqD) (defScope s_ChangeD_eqD) .none kV_ChangeD_eqD dc_ChangeD_eqD pm_ChangeD_eqD an_ChangeD_eqD cd_ChangeD_eqD ct_ChangeD_eqD, f_ChangeD_callD := f_ChangeD_callD, d_ChangeD_callD := PySem.W.fnOf "__call__" "Change.__call__" (defArgs s_ChangeD_callD) (defBody s_ChangeD_callD) (defScope s_ChangeD_callD) .none kV_ChangeD_callD dc_ChangeD_callD pm_ChangeD_callD an_ChangeD_callD cd_ChangeD_callD ct_ChangeD_callD, f_Change_setting := f_Change_setting, d_Change_setting := PySem.W.fnOf "setting" "Change.setting" (defArgs s_Change_setting) (defBody s_Change_setting) (defScope s_Change_setting) .none kV_Change_setting dc_Change_setting pm_Change_setting an_Change_setting cd_Change_setting ct_Change_setting, p_Change_setting := p_Change_setting, f_Change_read := f_Change_read, d_Change_read := PySem.W.fnOf "read" "Change.read" (defArgs s_Change_read) (defBody s_Change_read) (defScope s_Change_read) .none kV_Change_read dc_Change_read pm_Change_read an_Change_read cd_Change_read ct_Change_read, p_Change_read := p_Change_read, k_SIGNS := k_SIGNS, k_PATTERNS := k_PATTERNS, k_NINE_BITS := k_NINE_BITS, k_PARTS := k_PARTS, x_BadClause := x_BadClause, k_CLASSES := k_CLASSES, k_WEIGHTS := k_WEIGHTS } := {
    b_isinstance := PySem.W.mg_none_of X G z_isinstance,
    b_int := PySem.W.mg_none_of X G z_int,
    b_bool := PySem.W.mg_none_of X G z_bool,
    b_str := PySem.W.mg_none_of X G z_str,
    b_sum := PySem.W.mg_none_of X G z_sum,
    b_tuple := PySem.W.mg_none_of X G z_tuple,
    b_zip := PySem.W.mg_none_of X G z_zip,
    b_list := PySem.W.mg_none_of X G z_list,
    b_len := PySem.W.mg_none_of X G z_len,
    b_abs := PySem.W.mg_none_of X G z_abs,
    b_range := PySem.W.mg_none_of X G z_range,
    b_dict := PySem.W.mg_none_of X G z_dict,
    b_enumerate := PySem.W.mg_none_of X G z_enumerate,
    b_repr := PySem.W.mg_none_of X G z_repr,
    mg_is_whole := PySem.W.mg_of X G a_is_whole,
    fn_is_whole := fun_mk (st := s_is_whole) l_is_whole co_is_whole kp_is_whole,
    mg_is_whole_to := PySem.W.mg_of X G a_is_whole_to,
    fn_is_whole_to := fun_mk (st := s_is_whole_to) l_is_whole_to co_is_whole_to kp_is_whole_to,
    mg_is_choice := PySem.W.mg_of X G a_is_choice,
    fn_is_choice := fun_mk (st := s_is_choice) l_is_choice co_is_choice kp_is_choice,
    mg_pattern_in := PySem.W.mg_of X G a_pattern_in,
    fn_pattern_in := fun_mk (st := s_pattern_in) l_pattern_in co_pattern_in kp_pattern_in,
    mg_bits_of := PySem.W.mg_of X G a_bits_of,
    fn_bits_of := fun_mk (st := s_bits_of) l_bits_of co_bits_of kp_bits_of,
    mg_number_of := PySem.W.mg_of X G a_number_of,
    fn_number_of := fun_mk (st := s_number_of) l_number_of co_number_of kp_number_of,
    mg_is_meant := PySem.W.mg_of X G a_is_meant,
    fn_is_meant := fun_mk (st := s_is_meant) l_is_meant co_is_meant kp_is_meant,
    mg_pattern_behind := PySem.W.mg_of X G a_pattern_behind,
    fn_pattern_behind := fun_mk (st := s_pattern_behind) l_pattern_behind co_pattern_behind kp_pattern_behind,
    mg_part_of := PySem.W.mg_of X G a_part_of,
    fn_part_of := fun_mk (st := s_part_of) l_part_of co_part_of kp_part_of,
    mg_parts_for := PySem.W.mg_of X G a_parts_for,
    fn_parts_for := fun_mk (st := s_parts_for) l_parts_for co_parts_for kp_parts_for,
    mg_number_behind := PySem.W.mg_of X G a_number_behind,
    fn_number_behind := fun_mk (st := s_number_behind) l_number_behind co_number_behind kp_number_behind,
    mg__law_pen := PySem.W.mg_of X G a__law_pen,
    fn__law_pen := fun_mk (st := s__law_pen) l__law_pen co__law_pen kp__law_pen,
    mg__law_draw := PySem.W.mg_of X G a__law_draw,
    fn__law_draw := fun_mk (st := s__law_draw) l__law_draw co__law_draw kp__law_draw,
    mg__law_pick := PySem.W.mg_of X G a__law_pick,
    fn__law_pick := fun_mk (st := s__law_pick) l__law_pick co__law_pick kp__law_pick,
    mg__law_clause := PySem.W.mg_of X G a__law_clause,
    fn__law_clause := fun_mk (st := s__law_clause) l__law_clause co__law_clause kp__law_clause,
    mg__law_clause_done := PySem.W.mg_of X G a__law_clause_done,
    fn__law_clause_done := fun_mk (st := s__law_clause_done) l__law_clause_done co__law_clause_done kp__law_clause_done,
    mg__law_mode := PySem.W.mg_of X G a__law_mode,
    fn__law_mode := fun_mk (st := s__law_mode) l__law_mode co__law_mode kp__law_mode,
    mg_law := PySem.W.mg_of X G a_law,
    fn_law := fun_mk (st := s_law) l_law co_law kp_law,
    mg_in_turn := PySem.W.mg_of X G a_in_turn,
    fn_in_turn := fun_mk (st := s_in_turn) l_in_turn co_in_turn kp_in_turn,
    mg_tables_of := PySem.W.mg_of X G a_tables_of,
    fn_tables_of := fun_mk (st := s_tables_of) l_tables_of co_tables_of kp_tables_of,
    mg_letters_of := PySem.W.mg_of X G a_letters_of,
    fn_letters_of := fun_mk (st := s_letters_of) l_letters_of co_letters_of kp_letters_of,
    mg__law_text := PySem.W.mg_of X G a__law_text,
    fn__law_text := fun_mk (st := s__law_text) l__law_text co__law_text kp__law_text,
    mg__law_change := PySem.W.mg_of X G a__law_change,
    fn__law_change := fun_mk (st := s__law_change) l__law_change co__law_change kp__law_change,
    mg__law_change_text := PySem.W.mg_of X G a__law_change_text,
    fn__law_change_text := fun_mk (st := s__law_change_text) l__law_change_text co__law_change_text kp__law_change_text,
    mg__law_change_done := PySem.W.mg_of X G a__law_change_done,
    fn__law_change_done := fun_mk (st := s__law_change_done) l__law_change_done co__law_change_done kp__law_change_done,
    mg__law_cycle := PySem.W.mg_of X G a__law_cycle,
    fn__law_cycle := fun_mk (st := s__law_cycle) l__law_cycle co__law_cycle kp__law_cycle,
    mg__law_times := PySem.W.mg_of X G a__law_times,
    fn__law_times := fun_mk (st := s__law_times) l__law_times co__law_times kp__law_times,
    mg__law_letters := PySem.W.mg_of X G a__law_letters,
    fn__law_letters := fun_mk (st := s__law_letters) l__law_letters co__law_letters kp__law_letters,
    mg_Mode := PySem.W.mg_of X G a_Mode,
    c_Mode := ⟨pg_Mode, hd_Mode, po_Mode, sa_Mode⟩,
    n_number_Mode := n_number_Mode,
    mk_Mode := ⟨mk_Mode, at_ModeD_initD, fi_ModeD_initD, kc_Mode⟩,
    fn_ModeD_initD := fun_mk (st := s_ModeD_initD) l_ModeD_initD co_ModeD_initD kp_ModeD_initD,
    p_Mode_number := ⟨at_Mode_number, ge_Mode_number, ta_Mode_number, ⟨_, rc_Mode_number⟩⟩,
    fn_Mode_number := fun_mk (st := s_Mode_number) l_Mode_number co_Mode_number kp_Mode_number,
    p_Mode_digits := ⟨at_Mode_digits, ge_Mode_digits, ta_Mode_digits, ⟨_, rc_Mode_digits⟩⟩,
    fn_Mode_digits := fun_mk (st := s_Mode_digits) l_Mode_digits co_Mode_digits kp_Mode_digits,
    m_ModeD_strD := ⟨at_ModeD_strD, fi_ModeD_strD, kp_ModeD_strD⟩,
    fn_ModeD_strD := fun_mk (st := s_ModeD_strD) l_ModeD_strD co_ModeD_strD kp_ModeD_strD,
    m_ModeD_eqD := ⟨at_ModeD_eqD, fi_ModeD_eqD, kp_ModeD_eqD⟩,
    fn_ModeD_eqD := fun_mk (st := s_ModeD_eqD) l_ModeD_eqD co_ModeD_eqD kp_ModeD_eqD,
    r_Mode := ⟨rd_Mode, ga_Mode⟩,
    k_Mode_MOST := ⟨_, ⟨cv_Mode_MOST, ⟨_, rfl⟩⟩⟩,
    ia_Mode := ia_Mode,
    im_Mode := im_Mode,
    is_Mode := kit_self,
    ii_Mode := kit_no ci_Mode ti_Mode su_Mode,
    mg_Clause := PySem.W.mg_of X G a_Clause,
    c_Clause := ⟨pg_Clause, hd_Clause, po_Clause, sa_Clause⟩,
    n_who_Clause := n_who_Clause,
    n_sign_Clause := n_sign_Clause,
    n_what_Clause := n_what_Clause,
    n_tables_Clause := n_tables_Clause,
    mk_Clause := ⟨mk_Clause, at_ClauseD_initD, fi_ClauseD_initD, kc_Clause⟩,
    fn_ClauseD_initD := fun_mk (st := s_ClauseD_initD) l_ClauseD_initD co_ClauseD_initD kp_ClauseD_initD,
    p_Clause_who := ⟨at_Clause_who, ge_Clause_who, ta_Clause_who, ⟨_, rc_Clause_who⟩⟩,
    fn_Clause_who := fun_mk (st := s_Clause_who) l_Clause_who co_Clause_who kp_Clause_who,
    p_Clause_sign := ⟨at_Clause_sign, ge_Clause_sign, ta_Clause_sign, ⟨_, rc_Clause_sign⟩⟩,
    fn_Clause_sign := fun_mk (st := s_Clause_sign) l_Clause_sign co_Clause_sign kp_Clause_sign,
    p_Clause_what := ⟨at_Clause_what, ge_Clause_what, ta_Clause_what, ⟨_, rc_Clause_what⟩⟩,
    fn_Clause_what := fun_mk (st := s_Clause_what) l_Clause_what co_Clause_what kp_Clause_what,
    m_ClauseD_strD := ⟨at_ClauseD_strD, fi_ClauseD_strD, kp_ClauseD_strD⟩,
    fn_ClauseD_strD := fun_mk (st := s_ClauseD_strD) l_ClauseD_strD co_ClauseD_strD kp_ClauseD_strD,
    m_ClauseD_eqD := ⟨at_ClauseD_eqD, fi_ClauseD_eqD, kp_ClauseD_eqD⟩,
    fn_ClauseD_eqD := fun_mk (st := s_ClauseD_eqD) l_ClauseD_eqD co_ClauseD_eqD kp_ClauseD_eqD,
    o_Clause := ⟨at_ClauseD_callD, fi_ClauseD_callD, fm_ClauseD_callD⟩,
    fn_ClauseD_callD := fun_mk (st := s_ClauseD_callD) l_ClauseD_callD co_ClauseD_callD kp_ClauseD_callD,
    m_Clause_read := ⟨at_Clause_read, ⟨_, rc_Clause_read⟩, fm_Clause_read⟩,
    fn_Clause_read := fun_mk (st := s_Clause_read) l_Clause_read co_Clause_read kp_Clause_read,
    r_Clause := ⟨rd_Clause, ga_Clause⟩,
    ia_Clause := ia_Clause,
    im_Clause := im_Clause,
    is_Clause := kit_self,
    ii_Clause := kit_no ci_Clause ti_Clause su_Clause,
    mg_Change := PySem.W.mg_of X G a_Change,
    c_Change := ⟨pg_Change, hd_Change, po_Change, sa_Change⟩,
    n_clauses_Change := n_clauses_Change,
    n_tables_Change := n_tables_Change,
    mk_Change := ⟨mk_Change, at_ChangeD_initD, fi_ChangeD_initD, kc_Change⟩,
    fn_ChangeD_initD := fun_mk (st := s_ChangeD_initD) l_ChangeD_initD co_ChangeD_initD kp_ChangeD_initD,
    p_Change_clauses := ⟨at_Change_clauses, ge_Change_clauses, ta_Change_clauses, ⟨_, rc_Change_clauses⟩⟩,
    fn_Change_clauses := fun_mk (st := s_Change_clauses) l_Change_clauses co_Change_clauses kp_Change_clauses,
    p_Change_tables := ⟨at_Change_tables, ge_Change_tables, ta_Change_tables, ⟨_, rc_Change_tables⟩⟩,
    fn_Change_tables := fun_mk (st := s_Change_tables) l_Change_tables co_Change_tables kp_Change_tables,
    m_Change_cycle := ⟨at_Change_cycle, fi_Change_cycle, kp_Change_cycle⟩,
    fn_Change_cycle := fun_mk (st := s_Change_cycle) l_Change_cycle co_Change_cycle kp_Change_cycle,
    m_ChangeD_strD := ⟨at_ChangeD_strD, fi_ChangeD_strD, kp_ChangeD_strD⟩,
    fn_ChangeD_strD := fun_mk (st := s_ChangeD_strD) l_ChangeD_strD co_ChangeD_strD kp_ChangeD_strD,
    m_ChangeD_eqD := ⟨at_ChangeD_eqD, fi_ChangeD_eqD, kp_ChangeD_eqD⟩,
    fn_ChangeD_eqD := fun_mk (st := s_ChangeD_eqD) l_ChangeD_eqD co_ChangeD_eqD kp_ChangeD_eqD,
    r_Change := ⟨rd_Change, ga_Change⟩,
    k_Change_MOST := ⟨_, ⟨cv_Change_MOST, ⟨_, rfl⟩⟩⟩,
    o_Change := ⟨at_ChangeD_callD, fi_ChangeD_callD, fm_ChangeD_callD⟩,
    fn_ChangeD_callD := fun_mk (st := s_ChangeD_callD) l_ChangeD_callD co_ChangeD_callD kp_ChangeD_callD,
    m_Change_setting := ⟨at_Change_setting, ⟨_, rc_Change_setting⟩, kp_Change_setting⟩,
    fn_Change_setting := fun_mk (st := s_Change_setting) l_Change_setting co_Change_setting kp_Change_setting,
    m_Change_read := ⟨at_Change_read, ⟨_, rc_Change_read⟩, fm_Change_read⟩,
    fn_Change_read := fun_mk (st := s_Change_read) l_Change_read co_Change_read kp_Change_read,
    ia_Change := ia_Change,
    im_Change := im_Change,
    is_Change := kit_self,
    ii_Change := kit_no ci_Change ti_Change su_Change,
    in_ := in0,
    it_ := it0,
    mg_SIGNS := PySem.W.mg_of X G a_SIGNS,
    t_SIGNS := fun H => tup_at lt_SIGNS sz_SIGNS vl_SIGNS,
    mg_PATTERNS := PySem.W.mg_of X G a_PATTERNS,
    t_PATTERNS := fun H => tup_at lt_PATTERNS sz_PATTERNS vl_PATTERNS,
    mg_NINE_BITS := PySem.W.mg_of X G a_NINE_BITS,
    t_NINE_BITS := fun H => tup_at lt_NINE_BITS sz_NINE_BITS vl_NINE_BITS,
    mg_NINE_SIGNS := ⟨_, PySem.W.mg_of X G a_NINE_SIGNS⟩,
    mg_PARTS := PySem.W.mg_of X G a_PARTS,
    t_PARTS := fun H => ⟨k_P1, k_P2, k_P3, k_P4, tup_at lt_PARTS sz_PARTS vl_PARTS, tup_at lt_P1 sz_P1 vl_P1, tup_at lt_P2 sz_P2 vl_P2, tup_at lt_P3 sz_P3 vl_P3, tup_at lt_P4 sz_P4 vl_P4⟩,
    mg_BadClause := PySem.W.mg_of X G a_BadClause,
    nf_Mode := nf_Mode,
    mg_CLASSES := PySem.W.mg_of X G a_CLASSES,
    d_CLASSES := ⟨_, _, ⟨ld_CL, kl_CL, lw_CL⟩, ⟨_, eu_CL⟩, ⟨_, eg_CL⟩, ⟨_, eo_CL⟩, (List.forall_mem_cons.mpr ⟨w0_CL, (List.forall_mem_cons.mpr ⟨w1_CL, (List.forall_mem_cons.mpr ⟨w2_CL, (List.forall_mem_cons.mpr ⟨w3_CL, (List.forall_mem_cons.mpr ⟨w4_CL, (List.forall_mem_cons.mpr ⟨w5_CL, (List.forall_mem_cons.mpr ⟨w6_CL, (List.forall_mem_cons.mpr ⟨w7_CL, (List.forall_mem_cons.mpr ⟨w8_CL, (List.forall_mem_cons.mpr ⟨w9_CL, (List.forall_mem_cons.mpr ⟨w10_CL, (List.forall_mem_cons.mpr ⟨w11_CL, (List.forall_mem_cons.mpr ⟨w12_CL, (List.forall_mem_nil _)⟩)⟩)⟩)⟩)⟩)⟩)⟩)⟩)⟩)⟩)⟩)⟩)⟩)⟩,
    mg_WEIGHTS := PySem.W.mg_of X G a_WEIGHTS,
    d_WEIGHTS := ⟨_, _, ⟨ld_WG, kl_WG, lw_WG⟩, ⟨_, er_WG⟩, ⟨_, ew_WG⟩, ⟨_, ex_WG⟩⟩
  }
  exact ⟨PySem.W.fnOf "law" "law" (defArgs s_law) (defBody s_law) (defScope s_law) .none kV_law dc_law pm_law an_law cd_law ct_law, fun s v => .of_eq rfl, fun base _ _ => ok_law T⟩
theorem walk {l : PySem.W.OpenLaw} {q : Program} {loose : List Str} {XP : (Str → Option Value) → Heap → Prop} {YP : World → Heap → Prop} {d : DefRec} {K : Params → PySem.W.Frag} (many : l.most = some 63) (plain : d.params.defaults = []) (inK : ∀ (w : World) (h : Heap), YP w h → (K w.params).In h)
    (F : ∀ (w : World) (mg : Str → Option Value) (fa : Addr) (h : Heap), (K w.params).In h → h.Ns mainGlobals mg → mg d.name = some (.ref fa) →
      ∃ fd : FuncData, (∀ (s : Shared) (u : Value), BindsTo s fd ⟨[u], []⟩ [("_law_script", u)]) ∧ ∀ base : Heap, (K w.params).In base → base.Ns mainGlobals mg → RunAt l.prog w (K w.params) mg base callerA fa fd ["_law_script"] (spLaw (K w.params))) :
    PySem.W.WalkO q loose XP YP l.row.toRowW d [] (fun f vs => PySem.call f vs) :=
  walk_top (n := 63) (x := "_law_script") (sp := fun w => spLaw (K w.params)) many (by decide) plain inK F (fun _ _ b ns hl _ hS => ⟨b, ns, rfl, hS, hl, fun _ => rfl⟩)
end KX
open PySem PySem.W PyProof.Rows
set_option maxRecDepth 100000 in
set_option maxHeartbeats 0 in
theorem PySem.Challenge.cw_modesdown_k10_cycles_and_settings_holds : PySem.Challenge.rw_modesdown_k10_cycles_and_settings.Holds := by
  w_on; o_law; k_head; (case hw => w_witness2)
  k_fill
  refine KX.walk (l := PySem.Challenge.rw_modesdown_k10_cycles_and_settings) rfl rfl (fun w h Y => PySem.W.kIn_of Y) ?F
  case F =>
    intro w mg fa h kIn G hmg
    refine' KX.all_mk kIn G hmg ?z_isinstance ?z_int ?z_bool ?z_str ?z_sum ?z_tuple ?z_zip ?z_list ?z_len ?z_abs ?z_range ?z_dict ?z_enumerate ?z_repr ?a_is_whole ?l_is_whole ?co_is_whole ?kp_is_whole ?a_is_whole_to ?l_is_whole_to ?co_is_whole_to ?kp_is_whole_to ?a_is_choice ?l_is_choice ?co_is_choice ?kp_is_choice ?a_pattern_in ?l_pattern_in ?co_pattern_in ?kp_pattern_in ?a_bits_of ?l_bits_of ?co_bits_of ?kp_bits_of ?a_number_of ?l_number_of ?co_number_of ?kp_number_of ?a_is_meant ?l_is_meant ?co_is_meant ?kp_is_meant ?a_pattern_behind ?l_pattern_behind ?co_pattern_behind ?kp_pattern_behind ?a_part_of ?l_part_of ?co_part_of ?kp_part_of ?a_parts_for ?l_parts_for ?co_parts_for ?kp_parts_for ?a_number_behind ?l_number_behind ?co_number_behind ?kp_number_behind ?a__law_pen ?l__law_pen ?co__law_pen ?kp__law_pen ?a__law_draw ?l__law_draw ?co__law_draw ?kp__law_draw ?a__law_pick ?l__law_pick ?co__law_pick ?kp__law_pick ?a__law_clause ?l__law_clause ?co__law_clause ?kp__law_clause ?a__law_clause_done ?l__law_clause_done ?co__law_clause_done ?kp__law_clause_done ?a__law_mode ?l__law_mode ?co__law_mode ?kp__law_mode ?a_law ?l_law ?co_law ?kp_law ?a_in_turn ?l_in_turn ?co_in_turn ?kp_in_turn ?a_tables_of ?l_tables_of ?co_tables_of ?kp_tables_of ?a_letters_of ?l_letters_of ?co_letters_of ?kp_letters_of ?a__law_text ?l__law_text ?co__law_text ?kp__law_text ?a__law_change ?l__law_change ?co__law_change ?kp__law_change ?a__law_change_text ?l__law_change_text ?co__law_change_text ?kp__law_change_text ?a__law_change_done ?l__law_change_done ?co__law_change_done ?kp__law_change_done ?a__law_cycle ?l__law_cycle ?co__law_cycle ?kp__law_cycle ?a__law_times ?l__law_times ?co__law_times ?kp__law_times ?a__law_letters ?l__law_letters ?co__law_letters ?kp__law_letters ?a_Mode ?pg_Mode ?hd_Mode ?po_Mode ?sa_Mode ?n_number_Mode ?at_ModeD_initD ?fi_ModeD_initD ?l_ModeD_initD ?co_ModeD_initD ?kp_ModeD_initD ?mk_Mode ?kc_Mode ?at_Mode_number ?ge_Mode_number ?ta_Mode_number ?rc_Mode_number ?l_Mode_number ?co_Mode_number ?kp_Mode_number ?at_Mode_digits ?ge_Mode_digits ?ta_Mode_digits ?rc_Mode_digits ?l_Mode_digits ?co_Mode_digits ?kp_Mode_digits ?at_ModeD_strD ?fi_ModeD_strD ?l_ModeD_strD ?co_ModeD_strD ?kp_ModeD_strD ?at_ModeD_eqD ?fi_ModeD_eqD ?l_ModeD_eqD ?co_ModeD_eqD ?kp_ModeD_eqD ?rd_Mode ?ga_Mode ?cv_Mode_MOST ?ia_Mode ?im_Mode ?ci_Mode ?ti_Mode ?su_Mode ?a_Clause ?pg_Clause ?hd_Clause ?po_Clause ?sa_Clause ?n_who_Clause ?n_sign_Clause ?n_what_Clause ?n_tables_Clause ?at_ClauseD_initD ?fi_ClauseD_initD ?l_ClauseD_initD ?co_ClauseD_initD ?kp_ClauseD_initD ?mk_Clause ?kc_Clause ?at_Clause_who ?ge_Clause_who ?ta_Clause_who ?rc_Clause_who ?l_Clause_who ?co_Clause_who ?kp_Clause_who ?at_Clause_sign ?ge_Clause_sign ?ta_Clause_sign ?rc_Clause_sign ?l_Clause_sign ?co_Clause_sign ?kp_Clause_sign ?at_Clause_what ?ge_Clause_what ?ta_Clause_what ?rc_Clause_what ?l_Clause_what ?co_Clause_what ?kp_Clause_what ?at_ClauseD_strD ?fi_ClauseD_strD ?l_ClauseD_strD ?co_ClauseD_strD ?kp_ClauseD_strD ?at_ClauseD_eqD ?fi_ClauseD_eqD ?l_ClauseD_eqD ?co_ClauseD_eqD ?kp_ClauseD_eqD ?at_ClauseD_callD ?fi_ClauseD_callD ?fm_ClauseD_callD ?l_ClauseD_callD ?co_ClauseD_callD ?kp_ClauseD_callD ?at_Clause_read ?rc_Clause_read ?fm_Clause_read ?l_Clause_read ?co_Clause_read ?kp_Clause_read ?rd_Clause ?ga_Clause ?ia_Clause ?im_Clause ?ci_Clause ?ti_Clause ?su_Clause ?a_Change ?pg_Change ?hd_Change ?po_Change ?sa_Change ?n_clauses_Change ?n_tables_Change ?at_ChangeD_initD ?fi_ChangeD_initD ?l_ChangeD_initD ?co_ChangeD_initD ?kp_ChangeD_initD ?mk_Change ?kc_Change ?at_Change_clauses ?ge_Change_clauses ?ta_Change_clauses ?rc_Change_clauses ?l_Change_clauses ?co_Change_clauses ?kp_Change_clauses ?at_Change_tables ?ge_Change_tables ?ta_Change_tables ?rc_Change_tables ?l_Change_tables ?co_Change_tables ?kp_Change_tables ?at_Change_cycle ?fi_Change_cycle ?l_Change_cycle ?co_Change_cycle ?kp_Change_cycle ?at_ChangeD_strD ?fi_ChangeD_strD ?l_ChangeD_strD ?co_ChangeD_strD ?kp_ChangeD_strD ?at_ChangeD_eqD ?fi_ChangeD_eqD ?l_ChangeD_eqD ?co_ChangeD_eqD ?kp_ChangeD_eqD ?rd_Change ?ga_Change ?cv_Change_MOST ?at_ChangeD_callD ?fi_ChangeD_callD ?fm_ChangeD_callD ?l_ChangeD_callD ?co_ChangeD_callD ?kp_ChangeD_callD ?at_Change_setting ?rc_Change_setting ?l_Change_setting ?co_Change_setting ?kp_Change_setting ?at_Change_read ?rc_Change_read ?fm_Change_read ?l_Change_read ?co_Change_read ?kp_Change_read ?ia_Change ?im_Change ?ci_Change ?ti_Change ?su_Change ?in0 ?it0 ?a_SIGNS ?lt_SIGNS ?sz_SIGNS ?vl_SIGNS ?a_PATTERNS ?lt_PATTERNS ?sz_PATTERNS ?vl_PATTERNS ?a_NINE_BITS ?lt_NINE_BITS ?sz_NINE_BITS ?vl_NINE_BITS ?a_NINE_SIGNS ?a_PARTS ?lt_PARTS ?sz_PARTS ?vl_PARTS ?lt_P1 ?sz_P1 ?vl_P1 ?lt_P2 ?sz_P2 ?vl_P2 ?lt_P3 ?sz_P3 ?vl_P3 ?lt_P4 ?sz_P4 ?vl_P4 ?a_BadClause ?nf_Mode ?a_CLASSES ?ld_CL ?kl_CL ?lw_CL ?eu_CL ?eg_CL ?eo_CL ?w0_CL ?w1_CL ?w2_CL ?w3_CL ?w4_CL ?w5_CL ?w6_CL ?w7_CL ?w8_CL ?w9_CL ?w10_CL ?w11_CL ?w12_CL ?a_WEIGHTS ?ld_WG ?kl_WG ?lw_WG ?er_WG ?ew_WG ?ex_WG
    (case z_isinstance => k_is)
    (case z_int => k_is)
    (case z_bool => k_is)
    (case z_str => k_is)
    (case z_sum => k_is)
    (case z_tuple => k_is)
    (case z_zip => k_is)
    (case z_list => k_is)
    (case z_len => k_is)
    (case z_abs => k_is)
    (case z_range => k_is)
    (case z_dict => k_is)
    (case z_enumerate => k_is)
    (case z_repr => k_is)
    (case a_is_whole => k_is)
    (case l_is_whole => k_is)
    (case co_is_whole => k_is)
    (case kp_is_whole => k_is)
    (case a_is_whole_to => k_is)
    (case l_is_whole_to => k_is)
    (case co_is_whole_to => k_is)
    (case kp_is_whole_to => k_is)
    (case a_is_choice => k_is)
    (case l_is_choice => k_is)
    (case co_is_choice => k_is)
    (case kp_is_choice => k_is)
    (case a_pattern_in => k_is)
    (case l_pattern_in => k_is)
    (case co_pattern_in => k_is)
    (case kp_pattern_in => k_is)
    (case a_bits_of => k_is)
    (case l_bits_of => k_is)
    (case co_bits_of => k_is)
    (case kp_bits_of => k_is)
    (case a_number_of => k_is)
    (case l_number_of => k_is)
    (case co_number_of => k_is)
    (case kp_number_of => k_is)
    (case a_is_meant => k_is)
    (case l_is_meant => k_is)
    (case co_is_meant => k_is)
    (case kp_is_meant => k_is)
    (case a_pattern_behind => k_is)
    (case l_pattern_behind => k_is)
    (case co_pattern_behind => k_is)
    (case kp_pattern_behind => k_is)
    (case a_part_of => k_is)
    (case l_part_of => k_is)
    (case co_part_of => k_is)
    (case kp_part_of => k_is)
    (case a_parts_for => k_is)
    (case l_parts_for => k_is)
    (case co_parts_for => k_is)
    (case kp_parts_for => k_is)
    (case a_number_behind => k_is)
    (case l_number_behind => k_is)
    (case co_number_behind => k_is)
    (case kp_number_behind => k_is)
    (case a__law_pen => k_is)
    (case l__law_pen => k_is)
    (case co__law_pen => k_is)
    (case kp__law_pen => k_is)
    (case a__law_draw => k_is)
    (case l__law_draw => k_is)
    (case co__law_draw => k_is)
    (case kp__law_draw => k_is)
    (case a__law_pick => k_is)
    (case l__law_pick => k_is)
    (case co__law_pick => k_is)
    (case kp__law_pick => k_is)
    (case a__law_clause => k_is)
    (case l__law_clause => k_is)
    (case co__law_clause => k_is)
    (case kp__law_clause => k_is)
    (case a__law_clause_done => k_is)
    (case l__law_clause_done => k_is)
    (case co__law_clause_done => k_is)
    (case kp__law_clause_done => k_is)
    (case a__law_mode => k_is)
    (case l__law_mode => k_is)
    (case co__law_mode => k_is)
    (case kp__law_mode => k_is)
    (case a_law => k_is)
    (case l_law => k_is)
    (case co_law => k_is)
    (case kp_law => k_is)
    (case a_in_turn => k_is)
    (case l_in_turn => k_is)
    (case co_in_turn => k_is)
    (case kp_in_turn => k_is)
    (case a_tables_of => k_is)
    (case l_tables_of => k_is)
    (case co_tables_of => k_is)
    (case kp_tables_of => k_is)
    (case a_letters_of => k_is)
    (case l_letters_of => k_is)
    (case co_letters_of => k_is)
    (case kp_letters_of => k_is)
    (case a__law_text => k_is)
    (case l__law_text => k_is)
    (case co__law_text => k_is)
    (case kp__law_text => k_is)
    (case a__law_change => k_is)
    (case l__law_change => k_is)
    (case co__law_change => k_is)
    (case kp__law_change => k_is)
    (case a__law_change_text => k_is)
    (case l__law_change_text => k_is)
    (case co__law_change_text => k_is)
    (case kp__law_change_text => k_is)
    (case a__law_change_done => k_is)
    (case l__law_change_done => k_is)
    (case co__law_change_done => k_is)
    (case kp__law_change_done => k_is)
    (case a__law_cycle => k_is)
    (case l__law_cycle => k_is)
    (case co__law_cycle => k_is)
    (case kp__law_cycle => k_is)
    (case a__law_times => k_is)
    (case l__law_times => k_is)
    (case co__law_times => k_is)
    (case kp__law_times => k_is)
    (case a__law_letters => k_is)
    (case l__law_letters => k_is)
    (case co__law_letters => k_is)
    (case kp__law_letters => k_is)
    (case a_Mode => k_is)
    (case pg_Mode => k_is)
    (case hd_Mode => k_is)
    (case po_Mode => k_is)
    (case sa_Mode => k_is)
    (case n_number_Mode => k_is)
    (case at_ModeD_initD => k_is)
    (case fi_ModeD_initD => k_is)
    (case l_ModeD_initD => k_is)
    (case co_ModeD_initD => k_is)
    (case kp_ModeD_initD => k_is)
    (case mk_Mode => k_is)
    (case kc_Mode => k_is)
    (case at_Mode_number => k_is)
    (case ge_Mode_number => k_is)
    (case ta_Mode_number => k_is)
    (case rc_Mode_number => k_is)
    (case l_Mode_number => k_is)
    (case co_Mode_number => k_is)
    (case kp_Mode_number => k_is)
    (case at_Mode_digits => k_is)
    (case ge_Mode_digits => k_is)
    (case ta_Mode_digits => k_is)
    (case rc_Mode_digits => k_is)
    (case l_Mode_digits => k_is)
    (case co_Mode_digits => k_is)
    (case kp_Mode_digits => k_is)
    (case at_ModeD_strD => k_is)
    (case fi_ModeD_strD => k_is)
    (case l_ModeD_strD => k_is)
    (case co_ModeD_strD => k_is)
    (case kp_ModeD_strD => k_is)
    (case at_ModeD_eqD => k_is)
    (case fi_ModeD_eqD => k_is)
    (case l_ModeD_eqD => k_is)
    (case co_ModeD_eqD => k_is)
    (case kp_ModeD_eqD => k_is)
    (case rd_Mode => k_is)
    (case ga_Mode => k_is)
    (case cv_Mode_MOST => k_is)
    (case ia_Mode => k_is)
    (case im_Mode => k_is)
    (case ci_Mode => k_is)
    (case ti_Mode => k_is)
    (case su_Mode => k_is)
    (case a_Clause => k_is)
    (case pg_Clause => k_is)
    (case hd_Clause => k_is)
    (case po_Clause => k_is)
    (case sa_Clause => k_is)
    (case n_who_Clause => k_is)
    (case n_sign_Clause => k_is)
    (case n_what_Clause => k_is)
    (case n_tables_Clause => k_is)
    (case at_ClauseD_initD => k_is)
    (case fi_ClauseD_initD => k_is)
    (case l_ClauseD_initD => k_is)
    (case co_ClauseD_initD => k_is)
    (case kp_ClauseD_initD => k_is)
    (case mk_Clause => k_is)
    (case kc_Clause => k_is)
    (case at_Clause_who => k_is)
    (case ge_Clause_who => k_is)
    (case ta_Clause_who => k_is)
    (case rc_Clause_who => k_is)
    (case l_Clause_who => k_is)
    (case co_Clause_who => k_is)
    (case kp_Clause_who => k_is)
    (case at_Clause_sign => k_is)
    (case ge_Clause_sign => k_is)
    (case ta_Clause_sign => k_is)
    (case rc_Clause_sign => k_is)
    (case l_Clause_sign => k_is)
    (case co_Clause_sign => k_is)
    (case kp_Clause_sign => k_is)
    (case at_Clause_what => k_is)
    (case ge_Clause_what => k_is)
    (case ta_Clause_what => k_is)
    (case rc_Clause_what => k_is)
    (case l_Clause_what => k_is)
    (case co_Clause_what => k_is)
    (case kp_Clause_what => k_is)
    (case at_ClauseD_strD => k_is)
    (case fi_ClauseD_strD => k_is)
    (case l_ClauseD_strD => k_is)
    (case co_ClauseD_strD => k_is)
    (case kp_ClauseD_strD => k_is)
    (case at_ClauseD_eqD => k_is)
    (case fi_ClauseD_eqD => k_is)
    (case l_ClauseD_eqD => k_is)
    (case co_ClauseD_eqD => k_is)
    (case kp_ClauseD_eqD => k_is)
    (case at_ClauseD_callD => k_is)
    (case fi_ClauseD_callD => k_is)
    (case fm_ClauseD_callD => k_is)
    (case l_ClauseD_callD => k_is)
    (case co_ClauseD_callD => k_is)
    (case kp_ClauseD_callD => k_is)
    (case at_Clause_read => k_is)
    (case rc_Clause_read => k_is)
    (case fm_Clause_read => k_is)
    (case l_Clause_read => k_is)
    (case co_Clause_read => k_is)
    (case kp_Clause_read => k_is)
    (case rd_Clause => k_is)
    (case ga_Clause => k_is)
    (case ia_Clause => k_is)
    (case im_Clause => k_is)
    (case ci_Clause => k_is)
    (case ti_Clause => k_is)
    (case su_Clause => k_is)
    (case a_Change => k_is)
    (case pg_Change => k_is)
    (case hd_Change => k_is)
    (case po_Change => k_is)
    (case sa_Change => k_is)
    (case n_clauses_Change => k_is)
    (case n_tables_Change => k_is)
    (case at_ChangeD_initD => k_is)
    (case fi_ChangeD_initD => k_is)
    (case l_ChangeD_initD => k_is)
    (case co_ChangeD_initD => k_is)
    (case kp_ChangeD_initD => k_is)
    (case mk_Change => k_is)
    (case kc_Change => k_is)
    (case at_Change_clauses => k_is)
    (case ge_Change_clauses => k_is)
    (case ta_Change_clauses => k_is)
    (case rc_Change_clauses => k_is)
    (case l_Change_clauses => k_is)
    (case co_Change_clauses => k_is)
    (case kp_Change_clauses => k_is)
    (case at_Change_tables => k_is)
    (case ge_Change_tables => k_is)
    (case ta_Change_tables => k_is)
    (case rc_Change_tables => k_is)
    (case l_Change_tables => k_is)
    (case co_Change_tables => k_is)
    (case kp_Change_tables => k_is)
    (case at_Change_cycle => k_is)
    (case fi_Change_cycle => k_is)
    (case l_Change_cycle => k_is)
    (case co_Change_cycle => k_is)
    (case kp_Change_cycle => k_is)
    (case at_ChangeD_strD => k_is)
    (case fi_ChangeD_strD => k_is)
    (case l_ChangeD_strD => k_is)
    (case co_ChangeD_strD => k_is)
    (case kp_ChangeD_strD => k_is)
    (case at_ChangeD_eqD => k_is)
    (case fi_ChangeD_eqD => k_is)
    (case l_ChangeD_eqD => k_is)
    (case co_ChangeD_eqD => k_is)
    (case kp_ChangeD_eqD => k_is)
    (case rd_Change => k_is)
    (case ga_Change => k_is)
    (case cv_Change_MOST => k_is)
    (case at_ChangeD_callD => k_is)
    (case fi_ChangeD_callD => k_is)
    (case fm_ChangeD_callD => k_is)
    (case l_ChangeD_callD => k_is)
    (case co_ChangeD_callD => k_is)
    (case kp_ChangeD_callD => k_is)
    (case at_Change_setting => k_is)
    (case rc_Change_setting => k_is)
    (case l_Change_setting => k_is)
    (case co_Change_setting => k_is)
    (case kp_Change_setting => k_is)
    (case at_Change_read => k_is)
    (case rc_Change_read => k_is)
    (case fm_Change_read => k_is)
    (case l_Change_read => k_is)
    (case co_Change_read => k_is)
    (case kp_Change_read => k_is)
    (case ia_Change => k_is)
    (case im_Change => k_is)
    (case ci_Change => k_is)
    (case ti_Change => k_is)
    (case su_Change => k_is)
    (case in0 => k_is)
    (case it0 => k_is)
    (case a_SIGNS => k_is)
    (case lt_SIGNS => k_is)
    (case sz_SIGNS => (exact Nat.le_of_lt (L2.small1000 (by decide))))
    (case vl_SIGNS => exact (.cons ⟨_, rfl⟩ (.cons ⟨_, rfl⟩ (.cons ⟨_, rfl⟩ .nil))))
    (case a_PATTERNS => k_is)
    (case lt_PATTERNS => k_is)
    (case sz_PATTERNS => (exact Nat.le_of_lt (L2.small1000 (by decide))))
    (case vl_PATTERNS => exact (.cons ⟨_, rfl⟩ (.cons ⟨_, rfl⟩ (.cons ⟨_, rfl⟩ (.cons ⟨_, rfl⟩ (.cons ⟨_, rfl⟩ (.cons ⟨_, rfl⟩ (.cons ⟨_, rfl⟩ (.cons ⟨_, rfl⟩ .nil)))))))))
    (case a_NINE_BITS => k_is)
    (case lt_NINE_BITS => k_is)
    (case sz_NINE_BITS => (exact Nat.le_of_lt (L2.small1000 (by decide))))
    (case vl_NINE_BITS => exact (.cons ⟨_, rfl⟩ (.cons ⟨_, rfl⟩ (.cons ⟨_, rfl⟩ (.cons ⟨_, rfl⟩ (.cons ⟨_, rfl⟩ (.cons ⟨_, rfl⟩ (.cons ⟨_, rfl⟩ (.cons ⟨_, rfl⟩ (.cons ⟨_, rfl⟩ .nil))))))))))
    (case a_NINE_SIGNS => k_is)
    (case a_PARTS => k_is)
    (case lt_PARTS => k_is)
    (case sz_PARTS => (exact Nat.le_of_lt (L2.small1000 (by decide))))
    (case vl_PARTS => exact (.cons rfl (.cons rfl (.cons rfl (.cons rfl .nil)))))
    (case lt_P1 => k_is)
    (case sz_P1 => (exact Nat.le_of_lt (L2.small1000 (by decide))))
    (case vl_P1 => exact (.cons ⟨_, rfl⟩ (.cons ⟨_, rfl⟩ .nil)))
    (case lt_P2 => k_is)
    (case sz_P2 => (exact Nat.le_of_lt (L2.small1000 (by decide))))
    (case vl_P2 => exact (.cons ⟨_, rfl⟩ (.cons ⟨_, rfl⟩ .nil)))
    (case lt_P3 => k_is)
    (case sz_P3 => (exact Nat.le_of_lt (L2.small1000 (by decide))))
    (case vl_P3 => exact (.cons ⟨_, rfl⟩ (.cons ⟨_, rfl⟩ .nil)))
    (case lt_P4 => k_is)
    (case sz_P4 => (exact Nat.le_of_lt (L2.small1000 (by decide))))
    (case vl_P4 => exact (.cons ⟨_, rfl⟩ (.cons ⟨_, rfl⟩ .nil)))
    (case a_BadClause => k_is)
    (case nf_Mode => k_is)
    (case a_CLASSES => k_is)
    (case ld_CL => k_is)
    (case kl_CL => k_keys)
    (case lw_CL => decide)
    (case eu_CL => k_is)
    (case eg_CL => k_is)
    (case eo_CL => k_is)
    (case w0_CL => k_is)
    (case w1_CL => k_is)
    (case w2_CL => k_is)
    (case w3_CL => k_is)
    (case w4_CL => k_is)
    (case w5_CL => k_is)
    (case w6_CL => k_is)
    (case w7_CL => k_is)
    (case w8_CL => k_is)
    (case w9_CL => k_is)
    (case w10_CL => k_is)
    (case w11_CL => k_is)
    (case w12_CL => k_is)
    (case a_WEIGHTS => k_is)
    (case ld_WG => k_is)
    (case kl_WG => k_keys)
    (case lw_WG => decide)
    (case er_WG => k_is)
    (case ew_WG => k_is)
    (case ex_WG => k_is)
