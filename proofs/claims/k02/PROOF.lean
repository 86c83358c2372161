import PyProof.Rows.All
import Wide.All
import OpenK.AllK
import Wide.FinOn
import HandS.ForMost
import HandS.Property
import HandS.IsInst
import HandS.ClsMeth
import HandS.Conv
import HandS.Wide
import HandS.WideBits
import HandS.Star
import HandS.Flow
import HandS.Evl
import HandS.More
import HandS.Zip
import HandS.MethStar
import HandS.Strs
import HandS.ExcInit
import HandS.WordsExc
import HandS.ExcIs
import PyProof.EnumMake
import KE.GoesEnum
import HandS.IterVal
import HandS.SlotsOwn
import HandS.Codes
import HandS.Lambda
import KE.KExcIs
import HandS.EndTab
import KE.KNestM

import PySem.Challenge.RW_modesdown_k02_modes_read

set_option Elab.async false
set_option linter.all false
set_option maxRecDepth 100000
set_option maxHeartbeats 4000000
namespace KB
open PySem L2
def top (i : Nat) : Stmt := PySem.Challenge.pw_modesdown_k02_modes_read.main.body.getD i (.Pass ⟨0, 0, 0, 0⟩)
abbrev s__wall : Stmt := top 0
abbrev s_is_whole : Stmt := top 2
abbrev s_is_whole_to : Stmt := top 3
abbrev s_BadModeD_initD : Stmt := inClass (top 8) 0
abbrev s_BadTextD_initD : Stmt := inClass (top 9) 0
abbrev s_ModeD_initD : Stmt := inClass (top 13) 1
abbrev s_Mode_read : Stmt := inClass (top 13) 2
abbrev s_Mode_of : Stmt := inClass (top 13) 3
abbrev s_Mode_uniform : Stmt := inClass (top 13) 4
abbrev s_Mode_number : Stmt := inClass (top 13) 5
abbrev s_Mode_digits : Stmt := inClass (top 13) 6
abbrev s_Mode_pattern : Stmt := inClass (top 13) 7
abbrev s_Mode_with_pattern : Stmt := inClass (top 13) 8
abbrev s_ModeD_orD : Stmt := inClass (top 13) 9
abbrev s_ModeD_rorD : Stmt := inClass (top 13) 10
abbrev s_ModeD_andD : Stmt := inClass (top 13) 11
abbrev s_ModeD_randD : Stmt := inClass (top 13) 12
abbrev s_ModeD_xorD : Stmt := inClass (top 13) 13
abbrev s_ModeD_rxorD : Stmt := inClass (top 13) 14
abbrev s_ModeD_invertD : Stmt := inClass (top 13) 15
abbrev s_ModeD_containsD : Stmt := inClass (top 13) 16
abbrev s_ModeD_lenD : Stmt := inClass (top 13) 17
abbrev s_ModeD_boolD : Stmt := inClass (top 13) 18
abbrev s_ModeD_eqD : Stmt := inClass (top 13) 19
abbrev s_ModeD_strD : Stmt := inClass (top 13) 20
abbrev s_ModeD_reprD : Stmt := inClass (top 13) 21
abbrev s_may_stand : Stmt := top 14
abbrev s_number_of : Stmt := top 15
abbrev s__law_bag : Stmt := top 17
abbrev s__law_draw : Stmt := top 18
abbrev s__law_same : Stmt := top 19
abbrev s__law_heard : Stmt := top 20
abbrev s__law_due : Stmt := top 21
abbrev s__law_right : Stmt := top 22
abbrev s__law_spoilt : Stmt := top 23
abbrev s_law : Stmt := top 24
abbrev n__wall : List Str := ["k"]
theorem sc__wall : FnScope n__wall ["k"] (defScope s__wall) := ⟨rfl, rfl, rfl, by decide +kernel, rfl, by decide +kernel, by decide +kernel⟩
abbrev n_is_whole : List Str := ["value"]
theorem sc_is_whole : FnScope n_is_whole ["value"] (defScope s_is_whole) := ⟨rfl, rfl, rfl, by decide +kernel, rfl, by decide +kernel, by decide +kernel⟩
abbrev n_is_whole_to : List Str := ["value", "most"]
theorem sc_is_whole_to : FnScope n_is_whole_to ["value", "most"] (defScope s_is_whole_to) := ⟨rfl, rfl, rfl, by decide +kernel, rfl, by decide +kernel, by decide +kernel⟩
abbrev n_BadModeD_initD : List Str := ["self", "part"]
theorem sc_BadModeD_initD : FnScope n_BadModeD_initD ["self", "part"] (defScope s_BadModeD_initD) := ⟨rfl, rfl, rfl, by decide +kernel, rfl, by decide +kernel, by decide +kernel⟩
abbrev n_BadTextD_initD : List Str := ["self", "line", "word"]
theorem sc_BadTextD_initD : FnScope n_BadTextD_initD ["self", "line", "word"] (defScope s_BadTextD_initD) := ⟨rfl, rfl, rfl, by decide +kernel, rfl, by decide +kernel, by decide +kernel⟩
abbrev n_ModeD_initD : List Str := ["self", "number"]
theorem sc_ModeD_initD : FnScope n_ModeD_initD ["self", "number"] (defScope s_ModeD_initD) := ⟨rfl, rfl, rfl, by decide +kernel, rfl, by decide +kernel, by decide +kernel⟩
abbrev n_Mode_read : List Str := ["cls", "text", "number", "at", "sign"]
theorem sc_Mode_read : FnScope n_Mode_read ["cls", "text"] (defScope s_Mode_read) := ⟨rfl, rfl, rfl, by decide +kernel, rfl, by decide +kernel, by decide +kernel⟩
abbrev n_Mode_of : List Str := ["owner", "group", "others", "part", "digit"]
theorem sc_Mode_of : FnScope n_Mode_of ["owner", "group", "others"] (defScope s_Mode_of) := ⟨rfl, rfl, rfl, by decide +kernel, rfl, by decide +kernel, by decide +kernel⟩
abbrev n_Mode_uniform : List Str := ["pattern"]
theorem sc_Mode_uniform : FnScope n_Mode_uniform ["pattern"] (defScope s_Mode_uniform) := ⟨rfl, rfl, rfl, by decide +kernel, rfl, by decide +kernel, by decide +kernel⟩
abbrev n_Mode_number : List Str := ["self"]
theorem sc_Mode_number : FnScope n_Mode_number ["self"] (defScope s_Mode_number) := ⟨rfl, rfl, rfl, by decide +kernel, rfl, by decide +kernel, by decide +kernel⟩
abbrev n_Mode_digits : List Str := ["self"]
theorem sc_Mode_digits : FnScope n_Mode_digits ["self"] (defScope s_Mode_digits) := ⟨rfl, rfl, rfl, by decide +kernel, rfl, by decide +kernel, by decide +kernel⟩
abbrev n_Mode_pattern : List Str := ["self", "letter"]
theorem sc_Mode_pattern : FnScope n_Mode_pattern ["self", "letter"] (defScope s_Mode_pattern) := ⟨rfl, rfl, rfl, by decide +kernel, rfl, by decide +kernel, by decide +kernel⟩
abbrev n_Mode_with_pattern : List Str := ["self", "letter", "pattern"]
theorem sc_Mode_with_pattern : FnScope n_Mode_with_pattern ["self", "letter", "pattern"] (defScope s_Mode_with_pattern) := ⟨rfl, rfl, rfl, by decide +kernel, rfl, by decide +kernel, by decide +kernel⟩
abbrev n_ModeD_orD : List Str := ["self", "other"]
theorem sc_ModeD_orD : FnScope n_ModeD_orD ["self", "other"] (defScope s_ModeD_orD) := ⟨rfl, rfl, rfl, by decide +kernel, rfl, by decide +kernel, by decide +kernel⟩
abbrev n_ModeD_rorD : List Str := ["self", "other"]
theorem sc_ModeD_rorD : FnScope n_ModeD_rorD ["self", "other"] (defScope s_ModeD_rorD) := ⟨rfl, rfl, rfl, by decide +kernel, rfl, by decide +kernel, by decide +kernel⟩
abbrev n_ModeD_andD : List Str := ["self", "other"]
theorem sc_ModeD_andD : FnScope n_ModeD_andD ["self", "other"] (defScope s_ModeD_andD) := ⟨rfl, rfl, rfl, by decide +kernel, rfl, by decide +kernel, by decide +kernel⟩
abbrev n_ModeD_randD : List Str := ["self", "other"]
theorem sc_ModeD_randD : FnScope n_ModeD_randD ["self", "other"] (defScope s_ModeD_randD) := ⟨rfl, rfl, rfl, by decide +kernel, rfl, by decide +kernel, by decide +kernel⟩
abbrev n_ModeD_xorD : List Str := ["self", "other"]
theorem sc_ModeD_xorD : FnScope n_ModeD_xorD ["self", "other"] (defScope s_ModeD_xorD) := ⟨rfl, rfl, rfl, by decide +kernel, rfl, by decide +kernel, by decide +kernel⟩
abbrev n_ModeD_rxorD : List Str := ["self", "other"]
theorem sc_ModeD_rxorD : FnScope n_ModeD_rxorD ["self", "other"] (defScope s_ModeD_rxorD) := ⟨rfl, rfl, rfl, by decide +kernel, rfl, by decide +kernel, by decide +kernel⟩
abbrev n_ModeD_invertD : List Str := ["self"]
theorem sc_ModeD_invertD : FnScope n_ModeD_invertD ["self"] (defScope s_ModeD_invertD) := ⟨rfl, rfl, rfl, by decide +kernel, rfl, by decide +kernel, by decide +kernel⟩
abbrev n_ModeD_containsD : List Str := ["self", "bit", "bits"]
theorem sc_ModeD_containsD : FnScope n_ModeD_containsD ["self", "bit"] (defScope s_ModeD_containsD) := ⟨rfl, rfl, rfl, by decide +kernel, rfl, by decide +kernel, by decide +kernel⟩
abbrev n_ModeD_lenD : List Str := ["self", "bit"]
theorem sc_ModeD_lenD : FnScope n_ModeD_lenD ["self"] (defScope s_ModeD_lenD) := ⟨rfl, rfl, rfl, by decide +kernel, rfl, by decide +kernel, by decide +kernel⟩
abbrev n_ModeD_boolD : List Str := ["self"]
theorem sc_ModeD_boolD : FnScope n_ModeD_boolD ["self"] (defScope s_ModeD_boolD) := ⟨rfl, rfl, rfl, by decide +kernel, rfl, by decide +kernel, by decide +kernel⟩
abbrev n_ModeD_eqD : List Str := ["self", "other"]
theorem sc_ModeD_eqD : FnScope n_ModeD_eqD ["self", "other"] (defScope s_ModeD_eqD) := ⟨rfl, rfl, rfl, by decide +kernel, rfl, by decide +kernel, by decide +kernel⟩
abbrev n_ModeD_strD : List Str := ["self", "sign", "bit"]
theorem sc_ModeD_strD : FnScope n_ModeD_strD ["self"] (defScope s_ModeD_strD) := ⟨rfl, rfl, rfl, by decide +kernel, rfl, by decide +kernel, by decide +kernel⟩
abbrev n_ModeD_reprD : List Str := ["self"]
theorem sc_ModeD_reprD : FnScope n_ModeD_reprD ["self"] (defScope s_ModeD_reprD) := ⟨rfl, rfl, rfl, by decide +kernel, rfl, by decide +kernel, by decide +kernel⟩
abbrev n_may_stand : List Str := ["value"]
theorem sc_may_stand : FnScope n_may_stand ["value"] (defScope s_may_stand) := ⟨rfl, rfl, rfl, by decide +kernel, rfl, by decide +kernel, by decide +kernel⟩
abbrev n_number_of : List Str := ["mode"]
theorem sc_number_of : FnScope n_number_of ["mode"] (defScope s_number_of) := ⟨rfl, rfl, rfl, by decide +kernel, rfl, by decide +kernel, by decide +kernel⟩
abbrev n__law_bag : List Str := ["_law_script", "_law_state", "_law_cell"]
theorem sc__law_bag : FnScope n__law_bag ["_law_script"] (defScope s__law_bag) := ⟨rfl, rfl, rfl, by decide +kernel, rfl, by decide +kernel, by decide +kernel⟩
abbrev n__law_draw : List Str := ["_law_bag_here", "_law_limit", "_law_cell", "_law_mixed", "_law_found"]
theorem sc__law_draw : FnScope n__law_draw ["_law_bag_here", "_law_limit"] (defScope s__law_draw) := ⟨rfl, rfl, rfl, by decide +kernel, rfl, by decide +kernel, by decide +kernel⟩
abbrev n__law_same : List Str := ["_law_actual", "_law_expected", "_law_k"]
theorem sc__law_same : FnScope n__law_same ["_law_actual", "_law_expected"] (defScope s__law_same) := ⟨rfl, rfl, rfl, by decide +kernel, rfl, by decide +kernel, by decide +kernel⟩
abbrev n__law_heard : List Str := ["_law_ask", "error", "_law_marks"]
theorem sc__law_heard : FnScope n__law_heard ["_law_ask"] (defScope s__law_heard) := ⟨rfl, rfl, rfl, by decide +kernel, rfl, by decide +kernel, by decide +kernel⟩
abbrev n__law_due : List Str := ["_law_signs", "_law_at", "_law_number", "_law_sign"]
theorem sc__law_due : FnScope n__law_due ["_law_signs"] (defScope s__law_due) := ⟨rfl, rfl, rfl, by decide +kernel, rfl, by decide +kernel, by decide +kernel⟩
abbrev n__law_right : List Str := ["_law_signs", "_law_due_here", "_law_told", "_law_found"]
theorem sc__law_right : FnScope n__law_right ["_law_signs"] (defScope s__law_right) := ⟨rfl, rfl, rfl, by decide +kernel, rfl, by decide +kernel, by decide +kernel⟩
abbrev n__law_spoilt : List Str := ["_law_bag_here", "_law_signs", "_law_at", "_law_sign", "_law_way"]
theorem sc__law_spoilt : FnScope n__law_spoilt ["_law_bag_here", "_law_signs"] (defScope s__law_spoilt) := ⟨rfl, rfl, rfl, by decide +kernel, rfl, by decide +kernel, by decide +kernel⟩
abbrev n_law : List Str := ["_law_script", "_law_bag_here", "_law_k", "_law_signs", "_law_at", "_law_turn", "_law_odd"]
theorem sc_law : FnScope n_law ["_law_script"] (defScope s_law) := ⟨rfl, rfl, rfl, by decide +kernel, rfl, by decide +kernel, by decide +kernel⟩
end KB
set_option Elab.async false
set_option linter.all false
set_option maxRecDepth 100000
set_option maxHeartbeats 4000000
namespace KB
open PySem PySem.Spec PyProof.Rows L2 Evl
theorem all_nat {n : Nat} {p : Nat → Bool} (h : (List.range n).all p = true) : ∀ i, i < n → p i = true := fun i hi => List.all_eq_true.mp h i (List.mem_range.mpr hi)
structure Ads where
  f_is_whole : Addr
  d_is_whole : FuncData
  f_is_whole_to : Addr
  d_is_whole_to : FuncData
  f__law_bag : Addr
  d__law_bag : FuncData
  f__law_draw : Addr
  d__law_draw : FuncData
  f__law_same : Addr
  d__law_same : FuncData
  f__law_due : Addr
  d__law_due : FuncData
  f__law_spoilt : Addr
  d__law_spoilt : FuncData
  f__law_right : Addr
  d__law_right : FuncData
  f_Mode : Addr
  f_ModeD_initD : Addr
  d_ModeD_initD : FuncData
  f_Mode_number : Addr
  d_Mode_number : FuncData
  p_Mode_number : Addr
  f_ModeD_strD : Addr
  d_ModeD_strD : FuncData
  f_Mode_read : Addr
  d_Mode_read : FuncData
  p_Mode_read : Addr
  k_NINE_BITS : Addr
  x_BadMode : Addr
  x_BadInput : Addr
  x_NoWay : Addr
  x_BadText : Addr
  x_ModesError : Addr
  f__law_heard : Addr
  f_BadTextD_initD : Addr
  cR : Addr
  PR : Addr
  cA : Addr
  P0 : Addr
  d__law_heard : FuncData
  d_BadTextD_initD : FuncData
structure Txt (w : World) (K : PySem.W.Frag) (mg : Str → Option Value) (a : Ads) : Prop where
  b_ValueError : mg "ValueError" = none
  b_isinstance : mg "isinstance" = none
  b_int : mg "int" = none
  b_bool : mg "bool" = none
  b_str : mg "str" = none
  b_list : mg "list" = none
  b_len : mg "len" = none
  b_abs : mg "abs" = none
  b_range : mg "range" = none
  b_tuple : mg "tuple" = none
  b_enumerate : mg "enumerate" = none
  b_min : mg "min" = none
  b_zip : mg "zip" = none
  mg_is_whole : mg "is_whole" = some (.ref a.f_is_whole)
  fn_is_whole : Fun K "is_whole" "is_whole" s_is_whole a.f_is_whole a.d_is_whole
  mg_is_whole_to : mg "is_whole_to" = some (.ref a.f_is_whole_to)
  fn_is_whole_to : Fun K "is_whole_to" "is_whole_to" s_is_whole_to a.f_is_whole_to a.d_is_whole_to
  mg__law_bag : mg "_law_bag" = some (.ref a.f__law_bag)
  fn__law_bag : Fun K "_law_bag" "_law_bag" s__law_bag a.f__law_bag a.d__law_bag
  mg__law_draw : mg "_law_draw" = some (.ref a.f__law_draw)
  fn__law_draw : Fun K "_law_draw" "_law_draw" s__law_draw a.f__law_draw a.d__law_draw
  mg__law_same : mg "_law_same" = some (.ref a.f__law_same)
  fn__law_same : Fun K "_law_same" "_law_same" s__law_same a.f__law_same a.d__law_same
  mg__law_due : mg "_law_due" = some (.ref a.f__law_due)
  fn__law_due : Fun K "_law_due" "_law_due" s__law_due a.f__law_due a.d__law_due
  mg__law_spoilt : mg "_law_spoilt" = some (.ref a.f__law_spoilt)
  fn__law_spoilt : Fun K "_law_spoilt" "_law_spoilt" s__law_spoilt a.f__law_spoilt a.d__law_spoilt
  mg__law_right : mg "_law_right" = some (.ref a.f__law_right)
  fn__law_right : Fun K "_law_right" "_law_right" s__law_right a.f__law_right a.d__law_right
  mg_Mode : mg "Mode" = some (.ref a.f_Mode)
  c_Mode : Cls K a.f_Mode
  n_number_Mode : NoAttr K a.f_Mode "_number"
  mk_Mode : Mk K a.f_Mode a.f_ModeD_initD
  fn_ModeD_initD : Fun K "__init__" "Mode.__init__" s_ModeD_initD a.f_ModeD_initD a.d_ModeD_initD
  p_Mode_number : PropOf K a.f_Mode "number" a.p_Mode_number a.f_Mode_number
  fn_Mode_number : Fun K "number" "Mode.number" s_Mode_number a.f_Mode_number a.d_Mode_number
  m_ModeD_strD : Meth K a.f_Mode "__str__" a.f_ModeD_strD
  fn_ModeD_strD : Fun K "__str__" "Mode.__str__" s_ModeD_strD a.f_ModeD_strD a.d_ModeD_strD
  r_Mode : ClX.CRead K a.f_Mode (.type "type")
  k_Mode_MOST : ∃ t, ClX.CVal K a.f_Mode (.type "type") "MOST" (.int 511) (.int 511 t)
  m_Mode_read : ClX.CMet K a.f_Mode (.type "type") "read" a.p_Mode_read a.f_Mode_read
  fn_Mode_read : Fun K "read" "Mode.read" s_Mode_read a.f_Mode_read a.d_Mode_read
  ia_Mode : PySem.W.findIn K (.ref a.f_Mode) "__class__" = some (some (.builtin "object.__class__"))
  im_Mode : PySem.W.mroIn K a.f_Mode (.type "object") = some true
  is_Mode : PySem.W.kitOne K (.ref a.f_Mode) (.ref a.f_Mode) = some true
  ii_Mode : PySem.W.kitOne K (.type "int") (.ref a.f_Mode) = some false
  in_ : PySem.W.specialIn K (.builtin "object.__class__") "__get__" = some (some (.builtin "getset_descriptor.__get__"))
  it_ : PySem.W.takesIn K (.builtin "object.__class__") = some true
  mg_BadMode : mg "BadMode" = some (.ref a.x_BadMode)
  mg_ModesError : mg "ModesError" = some (.ref a.x_ModesError)
  mg_BadInput : mg "BadInput" = some (.ref a.x_BadInput)
  mg_NoWay : mg "NoWay" = some (.ref a.x_NoWay)
  mg_BadText : mg "BadText" = some (.ref a.x_BadText)
  ks_BadInput : PySem.W.kitOne K (.ref a.x_BadText) (.ref a.x_BadInput) = some true
  ks_NoWay : PySem.W.kitOne K (.ref a.x_BadText) (.ref a.x_NoWay) = some false
  ks_BadMode : PySem.W.kitOne K (.ref a.x_BadText) (.ref a.x_BadMode) = some false
  ks_BadText : PySem.W.kitOne K (.ref a.x_BadText) (.ref a.x_BadText) = some true
  ks_ValueError : PySem.W.kitOne K (.ref a.x_BadText) (.type "ValueError") = some true
  ec_BadText : ExcC K a.x_BadText
  mg__law_heard : mg "_law_heard" = some (.ref a.f__law_heard)
  fn__law_heard : Fun K "_law_heard" "_law_heard" s__law_heard a.f__law_heard a.d__law_heard
  ox_BadText : OexC K a.x_BadText
  ic_BadText : PySem.W.findIn K (.ref a.x_BadText) "__init__" = some (some (.ref a.f_BadTextD_initD))
  it_BadText : PySem.W.typeIn K (.ref a.f_BadTextD_initD) = some (.type "function")
  fn_BadTextD_initD : Fun K "__init__" "BadText.__init__" s_BadTextD_initD a.f_BadTextD_initD a.d_BadTextD_initD
  nl_BadText : PySem.W.findIn K (.ref a.x_BadText) "line" = some none
  nw_BadText : PySem.W.findIn K (.ref a.x_BadText) "word" = some none
  em_BadText : PySem.W.exmOne K (.ref a.x_BadText) (.ref a.x_ModesError) = some true
  cr : ∃ oc od kV doc pm an ct osl, a.d__law_right = PySem.W.fnOf "_law_right" "_law_right" (defArgs s__law_right) (defBody s__law_right) (defScope s__law_right) .none kV doc pm an (.ref a.cR) ct ∧ K.lookup a.f__law_right = some ⟨oc, od, .func a.d__law_right, osl⟩
  cr_code : PySem.W.codeIn K (.ref a.cR) "_law_right" = true
  PRP0 : a.PR ≠ a.P0
  mg_NINE_BITS : mg "NINE_BITS" = some (.ref a.k_NINE_BITS)
  t_NINE_BITS : ∀ H, SqT K H a.k_NINE_BITS ([256, 128, 64, 32, 16, 8, 4, 2, 1].map V.int)
  mg_NINE_SIGNS : ∃ t, mg "NINE_SIGNS" = some (.str "rwxrwxrwx" t)
theorem bd_is_whole {w : World} {K : PySem.W.Frag} {mg : Str → Option Value} {a : Ads} (T : Txt w K mg a) : Binds K a.d_is_whole ["value"] [] := T.fn_is_whole.binds (ps := ["value"]) fun _ _ _ _ _ _ us hl => match us, hl with | [_], _ => rfl
theorem bd_is_whole_to {w : World} {K : PySem.W.Frag} {mg : Str → Option Value} {a : Ads} (T : Txt w K mg a) : Binds K a.d_is_whole_to ["value", "most"] [] := T.fn_is_whole_to.binds (ps := ["value", "most"]) fun _ _ _ _ _ _ us hl => match us, hl with | [_, _], _ => rfl
theorem bd__law_bag {w : World} {K : PySem.W.Frag} {mg : Str → Option Value} {a : Ads} (T : Txt w K mg a) : Binds K a.d__law_bag ["_law_script"] [] := T.fn__law_bag.binds (ps := ["_law_script"]) fun _ _ _ _ _ _ us hl => match us, hl with | [_], _ => rfl
theorem bd__law_draw {w : World} {K : PySem.W.Frag} {mg : Str → Option Value} {a : Ads} (T : Txt w K mg a) : Binds K a.d__law_draw ["_law_bag_here", "_law_limit"] [] := T.fn__law_draw.binds (ps := ["_law_bag_here", "_law_limit"]) fun _ _ _ _ _ _ us hl => match us, hl with | [_, _], _ => rfl
theorem bd__law_same {w : World} {K : PySem.W.Frag} {mg : Str → Option Value} {a : Ads} (T : Txt w K mg a) : Binds K a.d__law_same ["_law_actual", "_law_expected"] [] := T.fn__law_same.binds (ps := ["_law_actual", "_law_expected"]) fun _ _ _ _ _ _ us hl => match us, hl with | [_, _], _ => rfl
theorem bd__law_due {w : World} {K : PySem.W.Frag} {mg : Str → Option Value} {a : Ads} (T : Txt w K mg a) : Binds K a.d__law_due ["_law_signs"] [] := T.fn__law_due.binds (ps := ["_law_signs"]) fun _ _ _ _ _ _ us hl => match us, hl with | [_], _ => rfl
theorem bd__law_spoilt {w : World} {K : PySem.W.Frag} {mg : Str → Option Value} {a : Ads} (T : Txt w K mg a) : Binds K a.d__law_spoilt ["_law_bag_here", "_law_signs"] [] := T.fn__law_spoilt.binds (ps := ["_law_bag_here", "_law_signs"]) fun _ _ _ _ _ _ us hl => match us, hl with | [_, _], _ => rfl
theorem bd__law_right {w : World} {K : PySem.W.Frag} {mg : Str → Option Value} {a : Ads} (T : Txt w K mg a) : Binds K a.d__law_right ["_law_signs"] [] := T.fn__law_right.binds (ps := ["_law_signs"]) fun _ _ _ _ _ _ us hl => match us, hl with | [_], _ => rfl
theorem bd_ModeD_initD {w : World} {K : PySem.W.Frag} {mg : Str → Option Value} {a : Ads} (T : Txt w K mg a) : Binds K a.d_ModeD_initD ["self", "number"] [] := T.fn_ModeD_initD.binds (ps := ["self", "number"]) fun _ _ _ _ _ _ us hl => match us, hl with | [_, _], _ => rfl
theorem bd_Mode_number {w : World} {K : PySem.W.Frag} {mg : Str → Option Value} {a : Ads} (T : Txt w K mg a) : Binds K a.d_Mode_number ["self"] [] := T.fn_Mode_number.binds (ps := ["self"]) fun _ _ _ _ _ _ us hl => match us, hl with | [_], _ => rfl
theorem bd_ModeD_strD {w : World} {K : PySem.W.Frag} {mg : Str → Option Value} {a : Ads} (T : Txt w K mg a) : Binds K a.d_ModeD_strD ["self"] [] := T.fn_ModeD_strD.binds (ps := ["self"]) fun _ _ _ _ _ _ us hl => match us, hl with | [_], _ => rfl
theorem bd_Mode_read {w : World} {K : PySem.W.Frag} {mg : Str → Option Value} {a : Ads} (T : Txt w K mg a) : Binds K a.d_Mode_read ["cls", "text"] [] := T.fn_Mode_read.binds (ps := ["cls", "text"]) fun _ _ _ _ _ _ us hl => match us, hl with | [_, _], _ => rfl
theorem bd_BadTextD_initD {w : World} {K : PySem.W.Frag} {mg : Str → Option Value} {a : Ads} (T : Txt w K mg a) : Binds K a.d_BadTextD_initD ["self", "line", "word"] [] := T.fn_BadTextD_initD.binds (ps := ["self", "line", "word"]) fun _ _ _ _ _ _ us hl => match us, hl with | [_, _, _], _ => rfl
theorem bd__law_heard {w : World} {K : PySem.W.Frag} {mg : Str → Option Value} {a : Ads} (T : Txt w K mg a) : Binds K a.d__law_heard ["_law_ask"] [] := T.fn__law_heard.binds (ps := ["_law_ask"]) fun _ _ _ _ _ _ us hl => match us, hl with | [_], _ => rfl
end KB
set_option Elab.async false
set_option linter.all false
set_option maxRecDepth 100000
set_option maxHeartbeats 4000000
namespace KB
open PySem PySem.Spec PyProof.Rows L2 Evl
local macro_rules | `(tactic| walk_at "ev") => `(tactic| repeat' (first | exact ev_c | exact ev_var rfl | exact rv_I0 | refine' rv_I ?_ | refine' rv_eq ?_ | refine' rv_ne ?_ | refine' ev_op ?_ ?_ ?_ | exact ea_nil | refine' ea_cons ?_ ?_ | refine' et_test ?_ | refine' et_B ?_ | refine' et_not ?_ | refine' ev_notV ?_))
/-! what a value evaluates to: further words -/
/-- a new instance -/
def EvI (te : TE) (σ : L2.St) (H : Hp) (C : Addr) (fs : List (Str × V)) : Prop := ∀ H1, Ex H H1 → ∀ Q : VK, (∀ p dx H2, H1 p = none → Ex H1 H2 → H2 p = some (.ins C dx fs) → Q (.ref p) H2) → te σ H1 Q
/-- a tuple, made or old -/
def EvW (K : PySem.W.Frag) (te : TE) (σ : L2.St) (H : Hp) (xs : List V) : Prop := ∀ H1, Ex H H1 → ∀ Q : VK, (∀ p H2, Ex H1 H2 → SqT K H2 p xs → Q (.ref p) H2) → te σ H1 Q
section
variable {σ : L2.St} {K : PySem.W.Frag} {H H' : Hp} {tx te ta tb : TE} {u t : TT} {v x y z : V} {r : R2}
theorem ev_isi {ta : TA} {c : V} {t u : Value} {b : Bool} (ha : EvA ta σ H [x, c]) (k : ClsV c u) (ty : ∀ H', Ex H H' → TyX K H' x t) (e : PySem.W.kitOne K t u = some b) : Ev (tCB (rIsi K) ta) σ H (.bl b) := fun H1 e1 Q q =>
  ha H1 e1 _ fun H2 e2 => ⟨x, c, t, u, b, rfl, k, ty H2 (e1.trans e2), e, q H2 e2⟩
theorem ev_chain {r r' : R2} {tc : TE} {k1 k2 : Bool} {z : V} (ha : Ev ta σ H x) (hb : Ev tb σ H y) (h1 : RV r x y H (.bl k1)) (hc : k1 = true → Ev tc σ H z ∧ RV r' y z H (.bl k2)) : Ev (tChain r r' ta tb tc) σ H (.bl (k1 && k2)) := fun H1 e1 Q q =>
  ha H1 e1 _ fun H2 e2 => hb H2 (e1.trans e2) _ fun H3 e3 => h1 H3 ((e1.trans e2).trans e3) _ fun H4 e4 => ⟨k1, rfl, by
    cases k1 with
    | true =>
      obtain ⟨h3, h4⟩ := hc rfl
      exact h3 H4 (((e1.trans e2).trans e3).trans e4) _ fun H5 e5 => h4 H5 ((((e1.trans e2).trans e3).trans e4).trans e5) _ fun H6 e6 => q H6 ((((e2.trans e3).trans e4).trans e5).trans e6)
    | false => exact q H4 ((e2.trans e3).trans e4)⟩
theorem ev_cval {ta : TE} {C : Addr} {mc : Value} {f : Str} {u : Value} (h : Ev ta σ H (.ref C)) (r : ClX.CRead K C mc) (k : ClX.CVal K C mc f v u) : Ev (ClX.tCVal K ta f) σ H v := fun H1 e Q q => h H1 e _ fun H2 e2 => ⟨C, mc, v, u, rfl, r, k, q H2 e2⟩
theorem ev_prop {C a : Addr} {dx : Addr} {fs : List (Str × V)} {sp : Sp} {E : XK} (h : Ev ta σ H (.ref a)) (ho : H a = some (.ins C dx fs)) (hs : SpV sp [.ref a] H v) : Ev (tProp C sp [] E ta) σ H v := fun H1 e Q q =>
  h H1 e _ fun H2 e2 => ⟨a, dx, fs, rfl, e2 _ _ (e _ _ ho), hs H2 (e.trans e2) Q (fun H3 e3 => q H3 (e2.trans e3)) E⟩
theorem ev_fld {C a : Addr} {dx : Addr} {fs : List (Str × V)} {f : Str} (h : Ev ta σ H (.ref a)) (ho : H a = some (.ins C dx fs)) (c : Cls K C) (n : NoAttr K C f) (l : fs.lookup f = some v) : Ev (tFld K ta f) σ H v := fun H1 e Q q =>
  h H1 e _ fun H2 e2 => ⟨a, C, dx, fs, v, rfl, e2 _ _ (e _ _ ho), c, n, l, q H2 e2⟩
theorem spv_get {C a : Addr} {dx : Addr} {fs : List (Str × V)} {f : Str} (ho : H a = some (.ins C dx fs)) (l : fs.lookup f = some v) : SpV (getSp C f) [.ref a] H v := fun H1 e Q q E => ⟨a, dx, fs, v, rfl, e _ _ ho, l, q H1 (Ex.refl _)⟩
end
/-! promises -/
def spTrue1 : Sp := fun vs H Q _ => ∃ i : Int, vs = [.int i] ∧ ∀ H', Ex H H' → Q (.bl true) H'
def spTrue2 : Sp := fun vs H Q _ => ∃ i m : Int, vs = [.int i, .int m] ∧ 0 ≤ i ∧ i ≤ m ∧ ∀ H', Ex H H' → Q (.bl true) H'
/-- a Mode of number n stands at p -/
def ModeAt (a : Ads) (H : Hp) (p : Addr) (n : Nat) : Prop := ∃ dx, H p = some (.ins a.f_Mode dx [(("_number" : Str), .int n)])
theorem ModeAt.mono {a : Ads} {H H' : Hp} {p : Addr} {n : Nat} (m : ModeAt a H p n) (e : Ex H H') : ModeAt a H' p n := by
  obtain ⟨dx, h⟩ := m
  exact ⟨dx, e _ _ h⟩
def spMode (a : Ads) : Sp := fun vs H Q _ => ∃ (p dx : Addr) (n : Nat), vs = [.ref p, .int n] ∧ n < 512 ∧ H p = some (.ins a.f_Mode dx []) ∧ ∀ H', (∀ b o, H b = some o → b ≠ p → H' b = some o) → H' p = some (.ins a.f_Mode dx [(("_number" : Str), .int n)]) → Q .non H'
section
variable {P : Program} {w : World} {K : PySem.W.Frag} {mg : Str → Option Value} {base : Heap} {a : Ads}
theorem ok_is_whole (T : Txt w K mg a) : FnOk P w K mg base CX0 1 a.f_is_whole a.d_is_whole ["value"] spTrue1 := by
  refine T.fn_is_whole.ok sc_is_whole (fun vs H Q E h => ?_) (fun cdv A outer s H vs Q E hr h => ?_)
  · obtain ⟨_, rfl, _⟩ := h
    rfl
  · obtain ⟨i, rfl, k⟩ := h
    refine ⟨_, (pss_one (ps_ret (pe_and (pe_callB call_isi (by rfl) T.b_isinstance PyProof.Rows.boot_isinstance (pa_cons (pv 0) (pa_cons (pe_bltn (v := .ty "int") (by rfl) T.b_int (by decide +kernel) rfl) pa_nil))) (pe_one (pe_not (pe_callB call_isi (by rfl) T.b_isinstance PyProof.Rows.boot_isinstance (pa_cons (pv 0) (pa_cons (pe_bltn (v := .ty "bool") (by rfl) T.b_bool (by decide +kernel) rfl) pa_nil)))))))), ?_⟩
    refine s_ret (v := .bl true) (ev_andV (a := true) (ev_isi (by walk_at "ev") (.ty _) (fun _ _ => .base (.int i)) (kit_ty (by decide +kernel))) fun _ => ev_notV (a := false) (ev_isi (by walk_at "ev") (.ty _) (fun _ _ => .base (.int i)) (kit_ty (by decide +kernel)))) fun H1 e1 => ?_
    exact k H1 e1
theorem ok_is_whole_to (T : Txt w K mg a) : FnOk P w K mg base CX0 3 a.f_is_whole_to a.d_is_whole_to ["value", "most"] spTrue2 := by
  have G_is_whole : FnOk P w K mg base CX0 1 _ _ _ _ := ok_is_whole T
  refine T.fn_is_whole_to.ok sc_is_whole_to (fun vs H Q E h => ?_) (fun cdv A outer s H vs Q E hr h => ?_)
  · obtain ⟨_, _, rfl, _⟩ := h
    rfl
  · obtain ⟨i, m, rfl, h0, h1, k⟩ := h
    have hrc : Room 1 _ := hr.mono (by decide)
    refine ⟨_, (pss_one (ps_ret (pe_and (pe_call G_is_whole hrc rfl T.mg_is_whole T.fn_is_whole.kp (bd_is_whole T) .nil pass0 (pa_cons (pv 0) pa_nil)) (pe_one (pe_chain op_le op_le pe_int (pv 0) (pv 1)))))), ?_⟩
    refine s_ret (v := .bl true) (ev_is (ev_andV (a := true) (ev_call (vs := [.int i]) (by walk_at "ev") fun H1 e Q q E => ⟨i, rfl, q⟩) fun _ => ev_chain (by walk_at "ev") (by walk_at "ev") (by walk_at "ev") fun _ => ⟨by walk_at "ev", by walk_at "ev"⟩) ?_) fun H1 e1 => ?_
    · rw [decide_eq_true h0, decide_eq_true h1] <;> rfl
    exact k H1 e1
theorem ok_Mode_init (T : Txt w K mg a) : FnOk P w K mg base CX0 5 a.f_ModeD_initD a.d_ModeD_initD ["self", "number"] (spMode a) := by
  have G_is_whole_to : FnOk P w K mg base CX0 3 _ _ _ _ := ok_is_whole_to T
  refine T.fn_ModeD_initD.ok sc_ModeD_initD (fun vs H Q E h => ?_) (fun cdv A outer s H vs Q E hr h => ?_)
  · obtain ⟨_, _, _, rfl, _⟩ := h
    rfl
  · obtain ⟨p, dx, n, rfl, hn, hp, k⟩ := h
    have hrc : Room 3 _ := hr.mono (by decide)
    obtain ⟨tm, hm⟩ := T.k_Mode_MOST
    refine ⟨_, (pss_cons (ps_if (pt_not (pt_val (pe_call G_is_whole_to hrc rfl T.mg_is_whole_to T.fn_is_whole_to.kp (bd_is_whole_to T) .nil pass0 (pa_cons (pv 1) (pa_cons (ClX.pe_cval (pe_glob (v := .ref a.f_Mode) rfl T.mg_Mode rfl)) pa_nil))))) (pss_one ps_never) pss_nil)
    (pss_one (ps_fld (pv 0) (pv 1) rfl))), ?_⟩
    refine q_when (b := false) (et_not (a := true) (et_B (ev_call (vs := [.int n, .int 511]) (ea_cons (ev_var rfl) (ea_cons (ev_cval ev_c T.r_Mode hm) ea_nil)) fun H1 e Q q E => ⟨n, 511, rfl, by omega, by omega, q⟩))) (fun z => nomatch z) fun _ H1 e1 => ?_
    refine ⟨_, rfl, _, rfl, p, a.f_Mode, dx, [], rfl, e1 _ _ hp, T.c_Mode, T.n_number_Mode, (by show 0 < 1000; decide), ?_⟩
    exact k _ (fun b o hb ne => by rw [upd_ne ne]; exact e1 _ _ hb) upd_same
theorem ok_Mode_number (T : Txt w K mg a) : FnOk P w K mg base CX0 1 a.f_Mode_number a.d_Mode_number ["self"] (getSp a.f_Mode "_number") := by
  obtain ⟨oc, od, kV, doc, pm, an, cdv, ct, osl, e, lk, hcd⟩ := T.fn_Mode_number.ex
  rw [e]
  exact fn_getter (by rw [← e]; exact lk) hcd sc_Mode_number rfl rfl T.c_Mode T.n_number_Mode
theorem tyx_mode (T : Txt w K mg a) {H : Hp} {p : Addr} {n : Nat} (m : ModeAt a H p n) : TyX K H (.ref p) (.ref a.f_Mode) := by
  obtain ⟨dx, h⟩ := m
  exact .base (.ins h T.c_Mode T.ia_Mode T.in_ T.it_ T.im_Mode)
end
end KB
set_option Elab.async false
set_option linter.all false
set_option maxRecDepth 100000
set_option maxHeartbeats 4000000
namespace KB
open PySem PySem.Spec PyProof.Rows L2 Evl
local macro_rules | `(tactic| walk_at "ev") => `(tactic| repeat' (first | exact ev_c | exact ev_var rfl | exact rv_I0 | refine' rv_I ?_ | refine' rv_eq ?_ | refine' rv_ne ?_ | refine' ev_op ?_ ?_ ?_ | exact ea_nil | refine' ea_cons ?_ ?_ | refine' et_test ?_ | refine' et_B ?_ | refine' et_not ?_ | refine' ev_notV ?_))

section
variable {σ : L2.St} {K : PySem.W.Frag} {H H' : Hp} {tx te ta tb : TE} {u t : TT} {v x y z : V} {r : R2}
/-- a comprehension over the signs of a text -/
theorem el_lcS {s : Str} {tl' : TE} {j : Nat} {vs : List Nat} (f : Nat → Bool) (v : Nat → V) (h : Ev tl' σ H (.str s)) (hz : s.cps.size ≤ 40000) (hw : ∀ x, wipe ((wipe σ vs).set j (some x)) vs = wipe σ vs)
    (ht : ∀ (i : Nat) (c : Nat) H1, Ex H H1 → s.cps[i]? = some c → EvT t ((wipe σ vs).set j (some (.str ⟨#[c]⟩))) H1 (f i)) (he : ∀ (i : Nat) (c : Nat) H1, Ex H H1 → s.cps[i]? = some c → f i = true → Ev te ((wipe σ vs).set j (some (.str ⟨#[c]⟩))) H1 (v i)) :
    EvL (tLc (iStr tl') (gName j) t te vs) σ H (given s.cps.size f v) := fun H0 e Q q => h H0 e _ fun H1 e1 => ⟨s, rfl, fun Dl hD =>
  ⟨fun i m H' => m = s.cps.size - i ∧ i ≤ s.cps.size ∧ Cw H1 f v Dl i H', ⟨s.cps.size, by simp, Nat.zero_le _, hD, Ex.new hD, upd_same⟩, by
    rintro i m H' ⟨rfl, hi, p⟩
    by_cases hlt : i < s.cps.size
    · refine .inr ⟨hlt, Cw H1 f v Dl (i + 1), fun H2 p' => ⟨s.cps.size - (i + 1), by omega, rfl, hlt, p'⟩, ?_⟩
      rintro x H2 ⟨rfl, c, hc, rfl⟩
      exact ⟨hw _, cw_turn p (by omega) (ht i c H1 (e.trans e1) hc) (fun hf => he i c H1 (e.trans e1) hc hf)⟩
    · have e2 : i = s.cps.size := by omega
      subst e2
      exact .inl ⟨Nat.le_refl _, q Dl H' (fresh_back e1 p.1) (e1.trans p.2.1) p.2.2⟩⟩⟩
/-- over a tuple -/
theorem el_lcT {a : Addr} {xs : List V} {tl : TE} {g : TG} {vs : List Nat} {σ' : V → L2.St} (f : Nat → Bool) (v : Nat → V) (h : Ev tl σ H (.ref a)) (hx : SqT K H a xs) (hz : xs.length ≤ 40000)
    (hg : ∀ (i : Nat) (x : V) H1 (Q : L2.St → Hp → Prop), Ex H H1 → xs[i]? = some x → Q (σ' x) H1 → g x (wipe σ vs) H1 Q) (hw : ∀ x, wipe (σ' x) vs = wipe σ vs)
    (ht : ∀ (i : Nat) (x : V) H1, Ex H H1 → xs[i]? = some x → EvT t (σ' x) H1 (f i)) (he : ∀ (i : Nat) (x : V) H1, Ex H H1 → xs[i]? = some x → f i = true → Ev te (σ' x) H1 (v i)) :
    EvL (tLc (iTup K tl) g t te vs) σ H (given xs.length f v) := fun H0 e Q q => h H0 e _ fun H1 e1 => ⟨a, rfl, ⟨xs, ex_t (e.trans e1) hx⟩, fun Dl hD =>
  lc_tup (xs := xs) (Cw H1 f v Dl) ⟨hD, Ex.new hD, upd_same⟩ (fun i H' _ p => ex_t ((e.trans e1).trans p.2.1) hx)
    (fun i x H' hi p => hg i x H' _ ((e.trans e1).trans p.2.1) hi ⟨hw x, cw_turn p (by have := (List.getElem?_eq_some_iff.mp hi).1; omega) (ht i x H1 (e.trans e1) hi) (fun hf => he i x H1 (e.trans e1) hi hf)⟩)
    (fun He cw => q Dl He (fresh_back e1 cw.1) (e1.trans cw.2.1) cw.2.2)⟩
theorem et_yes : EvT tYes σ H true := fun H1 _ _ q => q H1 (Ex.refl H1)
theorem ev_join {s : Str} {ys : List Str} (ha : Ev ta σ H (.str s)) (hb : EvL te σ H (ys.map V.str)) (hz : (ys.map (·.length)).sum + ys.length * s.length ≤ 16777216) :
    Ev (tM1 (fun x xs H Q => ∃ a p, ∃ ys : List Str, x = .str a ∧ xs = [.ref p] ∧ (SqL K H p (ys.map V.str) ∨ SqT K H p (ys.map V.str)) ∧ (ys.map (·.length)).sum + ys.length * a.length ≤ 16777216 ∧ Q (.str (Txt.join a ys)) H) ta te) σ H (.str (Txt.join s ys)) := fun H1 e Q q =>
  ha H1 e _ fun H2 e2 => ⟨⟨s, rfl⟩, hb H2 (e.trans e2) _ fun p H3 _ e3 h3 => ⟨s, p, ys, rfl, rfl, .inl (sq_of h3), hz, q H3 (e2.trans e3)⟩⟩
theorem eu_tuple {xs : List V} (h : EvL te σ H xs) : EvU (tCB (fun xs H Q => ∃ p ys, xs = [.ref p] ∧ ((SqL K H p ys ∧ ∀ l, H l = none → Q (.ref l) (upd H l (.tup ys))) ∨ (SqT K H p ys ∧ Q (.ref p) H))) (tCons te tNil)) σ H xs := fun H1 e Q q =>
  h H1 e _ fun p H2 _ e2 h2 => ⟨p, xs, rfl, .inl ⟨sq_of h2, fun l hl => q l _ (fresh_back e2 hl) (e2.trans (Ex.new hl)) upd_same⟩⟩
theorem ev_sum {ns : List Int} (h : EvL te σ H (ns.map V.int)) : Ev (tCB (rSum K) (tCons te tNil)) σ H (.int ns.sum) := fun H1 e Q q =>
  h H1 e _ fun p H2 _ e2 h2 => ⟨p, ns, rfl, sq_of h2, q H2 e2⟩
theorem el_is {xs ys : List V} (h : EvL te σ H xs) (e : xs = ys) : EvL te σ H ys := e ▸ h
theorem eu_is {xs ys : List V} (h : EvU te σ H xs) (e : xs = ys) : EvU te σ H ys := e ▸ h
theorem rv_inS {c : Nat} {w : Str} : RV (fun x y H Q => ∃ (c : Nat) (z : Str), x = .str ⟨#[c]⟩ ∧ y = .str z ∧ Q (.bl (decide (c ∈ z.cps.toList))) H) (.str ⟨#[c]⟩) (.str w) H (.bl (decide (c ∈ w.cps.toList))) := fun H1 _ _ q => ⟨c, w, rfl, rfl, q H1 (Ex.refl H1)⟩
end
end KB
set_option Elab.async false
set_option linter.all false
set_option maxRecDepth 100000
set_option maxHeartbeats 4000000
namespace KB
open PySem PySem.Spec PyProof.Rows L2 Evl
local macro_rules | `(tactic| walk_at "ev") => `(tactic| repeat' (first | exact ev_c | exact ev_var rfl | exact rv_I0 | refine' rv_I ?_ | refine' rv_eq ?_ | refine' rv_ne ?_ | refine' ev_op ?_ ?_ ?_ | exact ea_nil | refine' ea_cons ?_ ?_ | refine' et_test ?_ | refine' et_B ?_ | refine' et_not ?_ | refine' ev_notV ?_))

theorem put_some {kvs : List (Key × V)} {k : Key} {v y : V} (h : valV kvs k = some y) : putK kvs k v = kvs.map (fun kv => if kv.1 = k then (kv.1, v) else kv) := by
  unfold putK; rw [valV_any, h]; exact if_pos rfl
/-- three different keys, merged -/
theorem merge3 {k1 k2 k3 : Key} {x y z : V} (h1 : k1 ≠ k2) (h2 : k1 ≠ k3) (h3 : k2 ≠ k3) : mergeK [] [(k1, x), (k2, y), (k3, z)] = [(k1, x), (k2, y), (k3, z)] := by
  have e1 : putK [] k1 x = [(k1, x)] := putK_new x rfl
  have e2 : putK [(k1, x)] k2 y = [(k1, x), (k2, y)] := putK_new y ((valV_neg h1).trans rfl)
  have e3 : putK [(k1, x), (k2, y)] k3 z = [(k1, x), (k2, y), (k3, z)] := putK_new z ((valV_neg h2).trans ((valV_neg h3).trans rfl))
  show putK (putK (putK [] k1 x) k2 y) k3 z = _
  rw [e1, e2, e3]
/-- a new dict -/
def EvD (te : TE) (σ : L2.St) (H : Hp) (kvs : List (Key × V)) : Prop := ∀ H1, Ex H H1 → ∀ Q : VK, (∀ p H2, H1 p = none → Ex H1 H2 → H2 p = some (.dK kvs) → Q (.ref p) H2) → te σ H1 Q
section
variable {K : PySem.W.Frag} {σ : L2.St} {H H' : Hp} {ta tb te tx tv : TE} {t u : TT} {x y z v : V} {r : R2} {D : Ends} {tz : TS}
theorem ed_disp3 {s1 s2 s3 : Str} {t1 t2 t3 v1 v2 v3 : TE} (k1 : Ev t1 σ H (.str s1)) (h1 : Ev v1 σ H x) (k2 : Ev t2 σ H (.str s2)) (h2 : Ev v2 σ H y) (k3 : Ev t3 σ H (.str s3)) (h3 : Ev v3 σ H z) (n1 : (Sum.inr s1 : Key) ≠ .inr s2) (n2 : (Sum.inr s1 : Key) ≠ .inr s3) (n3 : (Sum.inr s2 : Key) ≠ .inr s3) :
    EvD (tDisp [(t1, v1), (t2, v2), (t3, v3)]) σ H [(.inr s1, x), (.inr s2, y), (.inr s3, z)] := fun H1 e Q q p hp => by
  have e0 : Ex H (upd H1 p (.dK [])) := e.trans (Ex.new hp)
  refine k1 _ e0 _ fun H2 e2 => h1 H2 (e0.trans e2) _ fun H3 e3 => k2 H3 ((e0.trans e2).trans e3) _ fun H4 e4 => h2 H4 (((e0.trans e2).trans e3).trans e4) _ fun H5 e5 => k3 H5 ((((e0.trans e2).trans e3).trans e4).trans e5) _ fun H6 e6 => h3 H6 (((((e0.trans e2).trans e3).trans e4).trans e5).trans e6) _ fun H7 e7 => ?_
  have e27 : Ex (upd H1 p (.dK [])) H7 := ((((e2.trans e3).trans e4).trans e5).trans e6).trans e7
  refine ⟨e27 _ _ upd_same, [(.inr s1, x), (.inr s2, y), (.inr s3, z)], rfl, by show 3 ≤ 15; decide, ?_⟩
  rw [merge3 n1 n2 n3]
  exact q p _ hp (fun b o hb => by rw [upd_ne (ne_of_none hb hp)]; exact e27 _ _ (Ex.new hp _ _ hb)) upd_same
theorem q_asgD {i : Nat} {kvs : List (Key × V)} (h : EvD te σ H kvs) (k : ∀ p H1, H p = none → Ex H H1 → H1 p = some (.dK kvs) → tz D (σ.set i (some (.ref p))) H1) : tSeq (tAsg te (gName i)) tz D σ H := h H (Ex.refl H) _ fun p H1 hp e h1 => k p H1 hp e h1
theorem ev_dget {d : Addr} {kvs : List (Key × V)} {s : Str} (h : Ev ta σ H (.ref d)) (hk : Ev tb σ H (.str s)) (hd : H d = some (.dK kvs)) (e : valV kvs (.inr s) = some v) : Ev (tDGet ta tb) σ H v := fun H1 e1 Q q =>
  h H1 e1 _ fun H2 e2 => hk H2 (e1.trans e2) _ fun H3 e3 => ⟨d, v, rfl, by rw [← e]; exact DGet.k (k := .inr s) (e3 _ _ (e2 _ _ (e1 _ _ hd))), q H3 (e2.trans e3)⟩
theorem ev_dget2 {d : Addr} {kvs : List (Key × V)} {s : Str} (h : Ev ta σ H (.ref d)) (hk : Ev tb σ H (.str s)) (hx : Ev tx σ H x) (hd : H d = some (.dK kvs)) : Ev (tDGet2 ta tb tx) σ H ((valV kvs (.inr s)).getD x) := fun H1 e1 Q q =>
  h H1 e1 _ fun H2 e2 => ⟨d, rfl, .inl ⟨kvs, .inl (e2 _ _ (e1 _ _ hd))⟩, hk H2 (e1.trans e2) _ fun H3 e3 => hx H3 ((e1.trans e2).trans e3) _ fun H4 e4 => ⟨_, DGet.k (k := .inr s) (e4 _ _ (e3 _ _ (e2 _ _ (e1 _ _ hd)))), q H4 ((e2.trans e3).trans e4)⟩⟩
theorem et_dnotin {d : Addr} {kvs : List (Key × V)} {s : Str} (hk : Ev ta σ H (.str s)) (h : Ev tb σ H (.ref d)) (hd : H d = some (.dK kvs)) : EvT (tB (tDNotIn ta tb)) σ H (!(valV kvs (.inr s)).isSome) := fun H1 e1 Q q =>
  hk H1 e1 _ fun H2 e2 => h H2 (e1.trans e2) _ fun H3 e3 => ⟨d, _, rfl, DGet.k (k := .inr s) (e3 _ _ (e2 _ _ (e1 _ _ hd))), _, rfl, q H3 (e2.trans e3)⟩
theorem ed_copy {d : Addr} {kvs : List (Key × V)} (h : Ev ta σ H (.ref d)) (hd : H d = some (.dK kvs)) : EvD (tCB (fun xs H Q => ∃ (a : Addr) (kvs : List (Key × V)), xs = [V.ref a] ∧ Rd H a (.dK kvs) ∧ ∀ p, H p = none → Q (.ref p) (upd H p (.dK kvs))) (tCons ta tNil)) σ H kvs := fun H1 e1 Q q =>
  h H1 e1 _ fun H2 e2 => ⟨d, kvs, rfl, .inl (e2 _ _ (e1 _ _ hd)), fun p hp => q p _ (fresh_back e2 hp) (e2.trans (Ex.new hp)) upd_same⟩
theorem q_dput {d : Addr} {kvs : List (Key × V)} {s : Str} (hv : Ev tv σ H v) (h : Ev ta σ H (.ref d)) (hk : Ev tb σ H (.str s)) (hd : H d = some (.dK kvs)) (hl : kvs.length < 1000) (k : ∀ H1, Ex H H1 → D.nx σ (upd H1 d (.dK (putK kvs (.inr s) v)))) : sDPut ta tb tv D σ H :=
  hv H (Ex.refl H) _ fun H1 e1 => h H1 e1 _ fun H2 e2 => hk H2 (e1.trans e2) _ fun H3 e3 => ⟨d, _, rfl, DPut.k (k := .inr s) (e3 _ _ (e2 _ _ (e1 _ _ hd))) (small1000 (Nat.le_of_lt hl)), k H3 ((e1.trans e2).trans e3)⟩
/-- over the signs of a text -/
theorem q_forS {s : Str} {j : Nat} {ts : TS} (h : Ev te σ H (.str s)) (Pv : Nat → L2.St → Hp → Prop) (h0 : ∀ H1, Ex H H1 → Pv 0 σ H1)
    (hs : ∀ (i c : Nat) σ' H', s.cps.toList[i]? = some c → Pv i σ' H' → ts { D with nx := Pv (i + 1), ct := Pv (i + 1), bk := tz D } (σ'.set j (some (.str ⟨#[c]⟩))) H') (hd : ∀ σ' H', Pv s.cps.size σ' H' → tz D σ' H') : tSeq (tFor (iStr te) (gName j) ts) tz D σ H :=
  h H (Ex.refl H) _ fun H1 e1 => ⟨s, rfl, fun i m σ' H' => m = s.cps.size - i ∧ i ≤ s.cps.size ∧ Pv i σ' H', ⟨s.cps.size, by simp, Nat.zero_le _, h0 H1 e1⟩, by
    rintro i m σ' H' ⟨rfl, hi, p⟩
    by_cases hlt : i < s.cps.size
    · refine .inr ⟨hlt, Pv (i + 1), fun σ2 H2 p' => ⟨s.cps.size - (i + 1), by omega, rfl, hlt, p'⟩, ?_⟩
      rintro x H2 ⟨rfl, c, hc, rfl⟩
      rw [← Array.getElem?_toList] at hc
      exact hs i c σ' _ hc p
    · have e : i = s.cps.size := by omega
      subst e
      exact .inl ⟨Nat.le_refl _, hd σ' H' p⟩⟩
theorem q_asgTV {p : Addr} {xs : List V} {n : Nat} {tgs : TGs} (h : Ev te σ H (.ref p)) (hx : SqT K H p xs) (hl : xs.length = n) (k : ∀ H1, Ex H H1 → tgs xs σ H1 (tz D)) : tSeq (tAsg te (gTup K n tgs)) tz D σ H :=
  h H (Ex.refl _) _ fun H1 e => ⟨p, xs, rfl, ex_t e hx, hl, k H1 e⟩
end
end KB
set_option Elab.async false
set_option linter.all false
set_option maxRecDepth 100000
set_option maxHeartbeats 4000000
namespace KB
open PySem PySem.Spec PyProof.Rows L2 Evl
local macro_rules | `(tactic| walk_at "ev") => `(tactic| repeat' (first | exact ev_c | exact ev_var rfl | exact rv_I0 | refine' rv_I ?_ | refine' rv_eq ?_ | refine' rv_ne ?_ | refine' ev_op ?_ ?_ ?_ | exact ea_nil | refine' ea_cons ?_ ?_ | refine' et_test ?_ | refine' et_B ?_ | refine' et_not ?_ | refine' ev_notV ?_))

open PySem
/-! ### what draws: a dict of the cells, where one stands, what is left of a great one, the state -/
def bagK (l : Addr) (at_ : Nat) (rest state : Int) : List (Key × V) := [(.inr "cells", .ref l), (.inr "at", .int at_), (.inr "rest", .int rest), (.inr "state", .int state)]
def BagAt (H : Hp) (p : Addr) : Prop := ∃ (l : Addr) (ns : List Int) (at_ : Nat) (rest state : Int), H p = some (.dK (bagK l at_ rest state)) ∧ H l = some (.lst (ns.map V.int)) ∧ l ≠ p ∧ at_ ≤ ns.length ∧ ns.length ≤ 63 ∧ 0 ≤ rest ∧ 0 ≤ state ∧ state < 2147483647
theorem BagAt.keep {H H' : Hp} {p : Addr} (h : BagAt H p) (e : Ex H H') : BagAt H' p := by
  obtain ⟨l, ns, at_, rest, state, h1, h2, h3⟩ := h
  exact ⟨l, ns, at_, rest, state, e _ _ h1, e _ _ h2, h3⟩
/-- all but p stays -/
def ExB (p : Addr) (H H' : Hp) : Prop := ∀ b o, H b = some o → b ≠ p → H' b = some o
theorem ExB.of {p : Addr} {H H' : Hp} (e : Ex H H') : ExB p H H' := fun b o h _ => e b o h
theorem ExB.trans {p : Addr} {H H1 H2 : Hp} (a : ExB p H H1) (b : ExB p H1 H2) : ExB p H H2 := fun c o h n => b c o (a c o h n) n
def spBag (K : PySem.W.Frag) : Sp := fun vs H Q _ => ∃ (s : Addr) (ns : List Int), vs = [.ref s] ∧ SqL K H s (ns.map V.int) ∧ ns.length ≤ 63 ∧ ∀ p H', H p = none → Ex H H' → BagAt H' p → Q (.ref p) H'
def spDraw : Sp := fun vs H Q _ => ∃ (p : Addr) (m : Nat), vs = [.ref p, .int m] ∧ BagAt H p ∧ 0 < m ∧ m ≤ 1000 ∧ ∀ (d : Nat) H', d < m → ExB p H H' → BagAt H' p → Q (.int d) H'
theorem bag_ne : (Sum.inr "cells" : Key) ≠ .inr "at" ∧ (Sum.inr "cells" : Key) ≠ .inr "rest" ∧ (Sum.inr "cells" : Key) ≠ .inr "state" ∧ (Sum.inr "at" : Key) ≠ .inr "rest" ∧ (Sum.inr "at" : Key) ≠ .inr "state" ∧ (Sum.inr "rest" : Key) ≠ .inr "state" := by decide +kernel
section
variable {l : Addr} {at_ : Nat} {rest state : Int}
theorem bag_cells : valV (bagK l at_ rest state) (.inr "cells") = some (.ref l) := valV_pos rfl
theorem bag_at : valV (bagK l at_ rest state) (.inr "at") = some (.int at_) := (valV_neg bag_ne.1).trans (valV_pos rfl)
theorem bag_rest : valV (bagK l at_ rest state) (.inr "rest") = some (.int rest) := (valV_neg bag_ne.2.1).trans ((valV_neg bag_ne.2.2.2.1).trans (valV_pos rfl))
theorem bag_state : valV (bagK l at_ rest state) (.inr "state") = some (.int state) := (valV_neg bag_ne.2.2.1).trans ((valV_neg bag_ne.2.2.2.2.1).trans ((valV_neg bag_ne.2.2.2.2.2).trans (valV_pos rfl)))
theorem put_at {n : Nat} : putK (bagK l at_ rest state) (.inr "at") (.int n) = bagK l n rest state := by
  rw [put_some bag_at]
  simp only [bagK, List.map_cons, List.map_nil, if_pos, if_neg bag_ne.1, if_neg bag_ne.2.2.2.1.symm, if_neg bag_ne.2.2.2.2.1.symm]
theorem put_rest {r : Int} : putK (bagK l at_ rest state) (.inr "rest") (.int r) = bagK l at_ r state := by
  rw [put_some bag_rest]
  simp only [bagK, List.map_cons, List.map_nil, if_pos, if_neg bag_ne.2.1, if_neg bag_ne.2.2.2.1, if_neg bag_ne.2.2.2.2.2.symm]
theorem put_state {r : Int} : putK (bagK l at_ rest state) (.inr "state") (.int r) = bagK l at_ rest r := by
  rw [put_some bag_state]
  simp only [bagK, List.map_cons, List.map_nil, if_pos, if_neg bag_ne.2.2.1, if_neg bag_ne.2.2.2.2.1, if_neg bag_ne.2.2.2.2.2]
end
theorem cut_ints (ns : List Int) (lo hi : Option Int) : ∃ ms : List Int, cutV (ns.map V.int) lo hi = ms.map V.int ∧ ms.length ≤ ns.length := by
  refine ⟨(ns.drop (HT.sIx ns.length 0 lo)).take (HT.sIx ns.length ns.length hi - HT.sIx ns.length 0 lo), ?_, ?_⟩
  · unfold cutV
    rw [List.length_map, List.map_take, List.map_drop]
  · rw [List.length_take, List.length_drop]
    omega
section
variable {K : PySem.W.Frag} {σ : L2.St} {H H' : Hp} {ta tb te tx tv : TE} {D : Ends} {tz : TS} {v : V}
theorem el_listN {xs : List V} (h : EvL te σ H xs) : EvL (tCB (fun xs H Q => ∃ p ys, xs = [V.ref p] ∧ (SqL K H p ys ∨ SqT K H p ys) ∧ ∀ l, H l = none → Q (.ref l) (upd H l (.lst ys))) (tCons te tNil)) σ H xs := fun H1 e Q q =>
  h H1 e _ fun p H2 _ e2 h2 => ⟨p, xs, rfl, .inl (sq_of h2), fun l hl => q l _ (fresh_back e2 hl) (e2.trans (Ex.new hl)) upd_same⟩
theorem ev_int {i : Int} (h : Ev te σ H (.int i)) : Ev (tCB (fun xs H Q => (∃ i, xs = [V.int i] ∧ Q (.int i) H) ∨ ∃ k, xs = [V.bl k] ∧ Q (.int (if k then 1 else 0)) H) (tCons te tNil)) σ H (.int i) := fun H1 e Q q => h H1 e _ fun H2 e2 => .inl ⟨i, rfl, q H2 e2⟩
theorem ev_lenS {p : Addr} {xs : List V} (ha : Ev ta σ H (.ref p)) (h : SqL K H p xs) : Ev (tCB (fun xs H Q => ∃ p ys, xs = [V.ref p] ∧ (SqL K H p ys ∨ SqT K H p ys) ∧ Q (.int (ys.length : Nat)) H) (tCons ta tNil)) σ H (.int (xs.length : Nat)) := ev_len ha h
theorem ev_abs {i : Int} (h : Ev te σ H (.int i)) : Ev (tCB (fun xs H Q => ∃ i, xs = [V.int i] ∧ Q (.int (if i < 0 then -i else i)) H) (tCons te tNil)) σ H (.int (if i < 0 then -i else i)) := fun H1 e Q q => h H1 e _ fun H2 e2 => ⟨i, rfl, q H2 e2⟩
/-- a new dict of four, the first entry a new list -/
theorem s_retBag {t1 t2 t3 t4 v1 v2 v3 v4 : TE} {s1 s2 s3 s4 : Str} {xs : List V} {y z u : V} (k1 : Ev t1 σ H (.str s1)) (h1 : EvL v1 σ H xs) (k2 : Ev t2 σ H (.str s2)) (h2 : Ev v2 σ H y) (k3 : Ev t3 σ H (.str s3)) (h3 : Ev v3 σ H z) (k4 : Ev t4 σ H (.str s4)) (h4 : Ev v4 σ H u)
    (ne : (Sum.inr s1 : Key) ≠ .inr s2 ∧ (Sum.inr s1 : Key) ≠ .inr s3 ∧ (Sum.inr s1 : Key) ≠ .inr s4 ∧ (Sum.inr s2 : Key) ≠ .inr s3 ∧ (Sum.inr s2 : Key) ≠ .inr s4 ∧ (Sum.inr s3 : Key) ≠ .inr s4)
    (k : ∀ l p H1, H p = none → Ex H H1 → l ≠ p → H1 l = some (.lst xs) → H1 p = some (.dK [(.inr s1, .ref l), (.inr s2, y), (.inr s3, z), (.inr s4, u)]) → D.rt (.ref p) H1) : tRet (tDisp [(t1, v1), (t2, v2), (t3, v3), (t4, v4)]) D σ H := fun p hp => by
  have e0 : Ex H (upd H p (.dK [])) := Ex.new hp
  refine k1 _ e0 _ fun H2 e2 => h1 H2 (e0.trans e2) _ fun l H3 hl e3 x3 => k2 H3 ((e0.trans e2).trans e3) _ fun H4 e4 => h2 H4 (((e0.trans e2).trans e3).trans e4) _ fun H5 e5 => k3 H5 ((((e0.trans e2).trans e3).trans e4).trans e5) _ fun H6 e6 => h3 H6 (((((e0.trans e2).trans e3).trans e4).trans e5).trans e6) _ fun H7 e7 => k4 H7 ((((((e0.trans e2).trans e3).trans e4).trans e5).trans e6).trans e7) _ fun H8 e8 => h4 H8 (((((((e0.trans e2).trans e3).trans e4).trans e5).trans e6).trans e7).trans e8) _ fun H9 e9 => ?_
  have e29 : Ex (upd H p (.dK [])) H9 := ((((((e2.trans e3).trans e4).trans e5).trans e6).trans e7).trans e8).trans e9
  have lp : l ≠ p := fun q => by rw [q, e2 _ _ upd_same] at hl; cases hl
  refine ⟨e29 _ _ upd_same, [(.inr s1, .ref l), (.inr s2, y), (.inr s3, z), (.inr s4, u)], rfl, by show 4 ≤ 15; decide, ?_⟩
  have m4 : mergeK [] [(.inr s1, V.ref l), (.inr s2, y), (.inr s3, z), (.inr s4, u)] = [(.inr s1, .ref l), (.inr s2, y), (.inr s3, z), (.inr s4, u)] := by
    show putK (mergeK [] [(.inr s1, V.ref l), (.inr s2, y), (.inr s3, z)]) (.inr s4) u = _
    rw [merge3 ne.1 ne.2.1 ne.2.2.2.1]
    exact putK_new u ((valV_neg ne.2.2.1).trans ((valV_neg ne.2.2.2.2.1).trans ((valV_neg ne.2.2.2.2.2).trans rfl)))
  rw [m4]
  exact k l p _ hp (fun b o hb => by rw [upd_ne (ne_of_none hb hp)]; exact e29 _ _ (Ex.new hp _ _ hb)) lp (by rw [upd_ne lp]; exact ((((((e4.trans e5).trans e6).trans e7).trans e8).trans e9)) _ _ x3) upd_same
end
section
variable {P : Program} {w : World} {K : PySem.W.Frag} {mg : Str → Option Value} {base : Heap} {a : Ads}
theorem ok_bag (T : Txt w K mg a) : FnOk P w K mg base CX0 1 a.f__law_bag a.d__law_bag ["_law_script"] (spBag K) := by
  refine T.fn__law_bag.ok sc__law_bag (fun vs H Q E h => ?_) (fun cdv A outer s H vs Q E hr h => ?_)
  · obtain ⟨_, _, rfl, _⟩ := h
    rfl
  · obtain ⟨sc, ns, rfl, hs, hl, k⟩ := h
    refine ⟨_, (pss_cons (ps_set (i := 1) sc__law_bag.nd rfl (Or.inl rfl) pe_int)
    (pss_cons (ps_for PassesOwn.never rfl (pi_list (pe_slice sl_list (pv 0) po_none (po_some pe_int))) (pg_name (i := 2) sc__law_bag.nd rfl (Or.inl rfl)) (pss_one (ps_set (i := 1) sc__law_bag.nd rfl (Or.inl rfl) (pe_op op_mod (pe_callTy call_int1 (by rfl) T.b_int (by decide +kernel) (pa_cons (pe_op op_add (pe_op op_add (pe_op op_mul (pv 1) pe_int) (pe_op op_mod (pe_callB call_abs (by rfl) T.b_abs (by decide +kernel) (pa_cons (pv 2) pa_nil)) pe_int)) pe_int) pa_nil)) pe_int))))
    (pss_one (ps_ret (pe_disp (pps_cons pe_str (pe_callTy call_list_of (by rfl) T.b_list (by decide +kernel) (pa_cons (pe_slice sl_list (pv 0) po_none (po_some pe_int)) pa_nil)) (pps_cons pe_str pe_int (pps_cons pe_str pe_int (pps_cons pe_str (pv 1) pps_nil)))) (by rfl) (by rfl) (fun z => by cases z) (by decide)))))), ?_⟩
    obtain ⟨ms, e, hm⟩ := cut_ints ns none (some 63)
    refine q_asg (v := .int 7) ev_c fun H1 e1 => ?_
    refine q_forNL (K := K) (xs := ms.map V.int) (el_is (el_sl (K := K) (ev_var rfl) eo_none (eo_some ev_c) (ex_l e1 hs)) e) (fun p i σ' H' => ∃ (st : Int) (o2 : Option V), σ' = [some (.ref sc), some (.int st), o2] ∧ 0 ≤ st ∧ st < 2147483647 ∧ Ex H H' ∧ H' p = some (.lst (ms.map V.int))) (fun p H2 _ e2 h2 => ⟨7, _, rfl, by decide, by decide, e1.trans e2, h2⟩) (fun p i σ' H' _ q => by
      obtain ⟨_, _, _, _, _, _, h2⟩ := q
      exact sq_of h2) (fun p i x σ' H2 hx q => ?_) (fun p σ' H2 q => ?_)
    · obtain ⟨st, o2, rfl, s0, s1, e2, h2⟩ := q
      rw [List.getElem?_map] at hx
      obtain ⟨c, hc, rfl⟩ := Option.map_eq_some_iff.mp hx
      refine s_asg (v := .int ((st * 69621 + (if c < 0 then -c else c) % 2147483629 + 11) % 2147483647)) (ev_op (ev_int (ev_op (ev_op (ev_op (ev_var rfl) ev_c (rv_I (.inl ⟨by omega, by omega⟩))) (ev_op (ev_abs (ev_var rfl)) ev_c (rv_I (by decide))) rv_I0) ev_c rv_I0)) ev_c (rv_I (by decide))) fun H3 e3 => ⟨_, _, rfl, Int.emod_nonneg _ (by decide), Int.emod_lt_of_pos _ (by decide), e2.trans e3, e3 _ _ h2⟩
    · obtain ⟨st, o2, rfl, s0, s1, e2, h2⟩ := q
      refine s_retBag ev_c (el_listN (K := K) (el_is (el_sl (K := K) (ev_var rfl) eo_none (eo_some ev_c) (ex_l e2 hs)) e)) ev_c ev_c ev_c ev_c ev_c (ev_var rfl) bag_ne fun l p H3 hp e3 lp h3 hd => ?_
      exact k p H3 (fresh_back e2 hp) (e2.trans e3) ⟨l, ms, 0, 0, st, hd, h3, lp, Nat.zero_le _, by omega, Int.le_refl 0, s0, s1⟩
end
end KB
set_option Elab.async false
set_option linter.all false
set_option maxRecDepth 100000
set_option maxHeartbeats 4000000
namespace KB
open PySem PySem.Spec PyProof.Rows L2 Evl
local macro_rules | `(tactic| walk_at "ev") => `(tactic| repeat' (first | exact ev_c | exact ev_var rfl | exact rv_I0 | refine' rv_I ?_ | refine' rv_eq ?_ | refine' rv_ne ?_ | refine' ev_op ?_ ?_ ?_ | exact ea_nil | refine' ea_cons ?_ ?_ | refine' et_test ?_ | refine' et_B ?_ | refine' et_not ?_ | refine' ev_notV ?_))

open PySem
theorem q_dputS {σ : L2.St} {H : Hp} {ta tb tv : TE} {v : V} {D : Ends} {tz : TS} {d : Addr} {kvs : List (Key × V)} {s : Str} (hv : Ev tv σ H v) (h : Ev ta σ H (.ref d)) (hk : Ev tb σ H (.str s)) (hd : H d = some (.dK kvs)) (hl : kvs.length < 1000) (k : ∀ H1, Ex H H1 → tz D σ (upd H1 d (.dK (putK kvs (.inr s) v)))) : tSeq (sDPut ta tb tv) tz D σ H :=
  q_dput (D := { D with nx := tz D }) hv h hk hd hl k
section
variable {P : Program} {w : World} {K : PySem.W.Frag} {mg : Str → Option Value} {base : Heap} {a : Ads}
theorem ok_draw (T : Txt w K mg a) : FnOk P w K mg base CX0 1 a.f__law_draw a.d__law_draw ["_law_bag_here", "_law_limit"] spDraw := by
  refine T.fn__law_draw.ok sc__law_draw (fun vs H Q E h => ?_) (fun cdv A outer s H vs Q E hr h => ?_)
  · obtain ⟨_, _, rfl, _⟩ := h
    rfl
  · obtain ⟨p, m, rfl, ⟨l, ns, at0, rest0, st, hp, hl, lp, hat, hlen, hr0, hs0, hs1⟩, hm0, hm, k⟩ := h
    have hu := hu_of hr
    have hm1 : (0 : Int) < (m : Int) := by omega
    refine ⟨_, (pss_cons (ps_while PassesOwn.never (PW.pt (pw_and (pt_cmpR op_lt (pe_dget hu (pv 0) pe_str (fun _ _ => rfl)) pe_int (nomark _)) (pw_and1 (pt_cmpR op_lt (pe_dget hu (pv 0) pe_str (fun _ _ => rfl)) (pe_callB call_len_seq (by rfl) T.b_len PySem.boot_len (pa_cons (pe_dget hu (pv 0) pe_str (fun _ _ => rfl)) pa_nil)) (nomark _))))) (pss_cons (ps_set (i := 2) sc__law_draw.nd rfl (Or.inl rfl) (pe_callB call_abs (by rfl) T.b_abs (by decide +kernel) (pa_cons (pe_ix ix_list (pe_dget hu (pv 0) pe_str (fun _ _ => rfl)) (pe_dget hu (pv 0) pe_str (fun _ _ => rfl)) (fun _ _ => rfl)) pa_nil)))
    (pss_cons (ps_dput hu (pv 0) pe_str (pe_op op_add (pe_dget hu (pv 0) pe_str (fun _ _ => rfl)) pe_int) rfl)
    (pss_cons (ps_if (pt_cmpR op_lt (pv 2) (pe_op op_pow pe_int pe_int) (nomark _)) (pss_cons (ps_set (i := 3) sc__law_draw.nd rfl (Or.inl rfl) (pe_op op_mod (pe_callTy call_int1 (by rfl) T.b_int (by decide +kernel) (pa_cons (pe_op op_add (pe_op op_pow (pe_op op_add (pv 2) pe_int) pe_int) (pe_op op_mul (pe_dget hu (pv 0) pe_str (fun _ _ => rfl)) (pe_op op_add (pe_dget hu (pv 0) pe_str (fun _ _ => rfl)) pe_int))) pa_nil)) pe_int))
    (pss_one (ps_ret (pe_op op_mod (pv 3) (pv 1))))) pss_nil)
    (pss_one (ps_dput hu (pv 0) pe_str (pv 2) rfl))))))
    (pss_cons (ps_if (pt_cmpR op_ge (pe_dget hu (pv 0) pe_str (fun _ _ => rfl)) pe_int (nomark _)) (pss_cons (ps_set (i := 4) sc__law_draw.nd rfl (Or.inl rfl) (pe_op op_mod (pe_callTy call_int1 (by rfl) T.b_int (by decide +kernel) (pa_cons (pe_dget hu (pv 0) pe_str (fun _ _ => rfl)) pa_nil)) (pv 1)))
    (pss_cons (ps_dput hu (pv 0) pe_str (pe_op op_fdiv (pe_dget hu (pv 0) pe_str (fun _ _ => rfl)) (pv 1)) rfl)
    (pss_one (ps_ret (pv 4))))) pss_nil)
    (pss_cons (ps_dput hu (pv 0) pe_str (pe_op op_mod (pe_callTy call_int1 (by rfl) T.b_int (by decide +kernel) (pa_cons (pe_op op_add (pe_op op_mul (pe_dget hu (pv 0) pe_str (fun _ _ => rfl)) pe_int) pe_int) pa_nil)) pe_int) rfl)
    (pss_one (ps_ret (pe_op op_mod (pe_op op_mod (pe_callTy call_int1 (by rfl) T.b_int (by decide +kernel) (pa_cons (pe_op op_pow (pe_dget hu (pv 0) pe_str (fun _ _ => rfl)) pe_int) pa_nil)) pe_int) (pv 1))))))), ?_⟩
    have fin : ∀ (H1 : Hp) (x : Int) (b : Nat) (r s' : Int), ExB p H H1 → H1 p = some (.dK (bagK l b r s')) → b ≤ ns.length → 0 ≤ r → 0 ≤ s' → s' < 2147483647 → 0 ≤ x → x < m → Q (.int x) H1 := fun H1 x b r s' e h hb hr h0 h1 hx hx2 => by
      have ex : x = (x.toNat : Nat) := by omega
      rw [ex]
      exact k x.toNat H1 (by omega) e ⟨l, ns, b, r, s', h, e _ _ hl lp, lp, hb, hlen, hr, h0, h1⟩
    have h18 : (10 : Int) ^ (18 : Int).toNat = 1000000000000000000 := by decide
    let W : Nat → L2.St → Hp → Prop := fun mm σ' H' => ∃ (b : Nat) (r : Int) (o2 o3 o4 : Option V), mm = ns.length - b ∧ σ' = [some (.ref p), some (.int (m : Nat)), o2, o3, o4] ∧ ExB p H H' ∧ H' p = some (.dK (bagK l b r st)) ∧ b ≤ ns.length ∧ 0 ≤ r
    refine q_while W (ns.length - at0) ⟨at0, rest0, _, _, _, rfl, rfl, ExB.of (Ex.refl H), hp, hat, hr0⟩ fun mm σ' H' q => ?_
    obtain ⟨b, r, o2, o3, o4, rfl, rfl, e, hp', hb, hr'⟩ := q
    have hl' := e _ _ hl lp
    refine ⟨_, et_and (et_test (ev_op (ev_dget (ev_var rfl) ev_c hp' bag_rest) ev_c rv_I0)) (fun _ => et_test (ev_op (ev_dget (ev_var rfl) ev_c hp' bag_at) (ev_lenS (K := K) (ev_dget (ev_var rfl) ev_c hp' bag_cells) (sq_of hl')) rv_I0)), fun hb2 H1 e1 => ?_, fun _ H1 e1 => ?_⟩
    · have hlt : b < ns.length := by
        have := of_decide_eq_true (Bool.and_eq_true_iff.mp hb2).2
        rw [List.length_map] at this
        omega
      have hc : atI (ns.map V.int) ((b : Nat) : Int) = some (.int ns[b]) := atI_nat (by simp [hlt])
      generalize ns[b] = c at hc
      have hp1 := e1 _ _ hp'
      have hl1 := e1 _ _ hl'
      refine ⟨fun σ2 H2 => ∃ m', m' < ns.length - b ∧ W m' σ2 H2, fun σ2 H2 h => h, ?_⟩
      refine q_asg (v := .int (if c < 0 then -c else c)) (ev_abs (ev_op (ev_dget (ev_var rfl) ev_c hp1 bag_cells) (ev_dget (ev_var rfl) ev_c hp1 bag_at) (rv_ixL (K := K) (sq_of hl1) hc))) fun H2 e2 => ?_
      have c0 : 0 ≤ (if c < 0 then -c else c) := by split <;> omega
      generalize (if c < 0 then -c else c) = z at c0
      have hp2 := e2 _ _ hp1
      refine q_dputS (v := .int ((b + 1 : Nat) : Int)) (ev_is (ev_op (ev_dget (ev_var rfl) ev_c hp2 bag_at) ev_c rv_I0) (by rw [Int.natCast_add] <;> rfl)) (ev_var rfl) ev_c hp2 (by show 4 < 1000; decide) fun H3 e3 => ?_
      rw [put_at]
      have e4 : ExB p H (upd H3 p (.dK (bagK l (b + 1) r st))) := fun d o hd ne => by rw [upd_ne ne]; exact ((e1.trans e2).trans e3) _ _ (e _ _ hd ne)
      have hp4 : upd H3 p (.dK (bagK l (b + 1) r st)) p = some (.dK (bagK l (b + 1) r st)) := upd_same
      generalize upd H3 p (.dK (bagK l (b + 1) r st)) = H4 at e4 hp4
      refine q_when (et_test (ev_op (ev_var rfl) (ev_op ev_c ev_c (rv_I ⟨by decide, by decide, by decide⟩)) rv_I0)) (fun hz H5 e5 => ?_) (fun hz H5 e5 => ?_)
      · have hz := of_decide_eq_true hz
        rw [h18] at hz
        have hp5 := e5 _ _ hp4
        refine q_asg (v := .int (((z + 3) ^ (3 : Int).toNat + st * (((b + 1 : Nat) : Int) + 1)) % 2147483629)) (ev_op (ev_int (ev_op (ev_op (ev_op (ev_var rfl) ev_c rv_I0) ev_c (rv_I ⟨by decide, by decide, by omega⟩)) (ev_op (ev_dget (ev_var rfl) ev_c hp5 bag_state) (ev_op (ev_dget (ev_var rfl) ev_c hp5 bag_at) ev_c rv_I0) (rv_I (.inl ⟨by omega, by omega⟩))) rv_I0)) ev_c (rv_I (by decide))) fun H6 e6 => ?_
        refine s_ret (ev_op (ev_var rfl) (ev_var rfl) (rv_I (by omega))) fun H7 e7 => ?_
        exact fin H7 _ (b + 1) r st (e4.trans (ExB.of ((e5.trans e6).trans e7))) (e7 _ _ (e6 _ _ hp5)) (by omega) hr' hs0 hs1 (Int.emod_nonneg _ (by omega)) (Int.emod_lt_of_pos _ hm1)
      · have hp5 := e5 _ _ hp4
        refine q_dput (v := .int z) (ev_var rfl) (ev_var rfl) ev_c hp5 (by show 4 < 1000; decide) fun H6 e6 => ?_
        rw [put_rest]
        exact ⟨ns.length - (b + 1), by omega, b + 1, z, _, _, _, rfl, rfl, fun d o hd ne => by rw [upd_ne ne]; exact (e5.trans e6) _ _ (e4 _ _ hd ne), upd_same, by omega, c0⟩
    · have hp1 := e1 _ _ hp'
      refine q_when (et_test (ev_op (ev_dget (ev_var rfl) ev_c hp1 bag_rest) ev_c rv_I0)) (fun _ H2 e2 => ?_) (fun _ H2 e2 => ?_)
      · have hp2 := e2 _ _ hp1
        refine q_asg (v := .int (r % m)) (ev_op (ev_int (ev_dget (ev_var rfl) ev_c hp2 bag_rest)) (ev_var rfl) (rv_I (by omega))) fun H3 e3 => ?_
        have hp3 := e3 _ _ hp2
        refine q_dputS (v := .int (r / m)) (ev_op (ev_dget (ev_var rfl) ev_c hp3 bag_rest) (ev_var rfl) (rv_I ⟨by omega, by omega⟩)) (ev_var rfl) ev_c hp3 (by show 4 < 1000; decide) fun H4 e4 => ?_
        rw [put_rest]
        refine s_ret (v := .int (r % m)) (ev_var rfl) fun H5 e5 => ?_
        exact fin H5 _ b (r / m) st (e.trans (fun d o hd ne => e5 _ _ (by rw [upd_ne ne]; exact (((e1.trans e2).trans e3).trans e4) _ _ hd))) (e5 _ _ upd_same) hb (Int.ediv_nonneg hr' (by omega)) hs0 hs1 (Int.emod_nonneg _ (by omega)) (Int.emod_lt_of_pos _ hm1)
      · have hp2 := e2 _ _ hp1
        refine q_dputS (v := .int ((st * 48271 + 13) % 2147483647)) (ev_op (ev_int (ev_op (ev_op (ev_dget (ev_var rfl) ev_c hp2 bag_state) ev_c (rv_I (.inl ⟨by omega, by omega⟩))) ev_c rv_I0)) ev_c (rv_I (by decide))) (ev_var rfl) ev_c hp2 (by show 4 < 1000; decide) fun H3 e3 => ?_
        rw [put_state]
        have n0 : 0 ≤ (st * 48271 + 13) % 2147483647 := Int.emod_nonneg _ (by decide)
        have n1 : (st * 48271 + 13) % 2147483647 < 2147483647 := Int.emod_lt_of_pos _ (by decide)
        generalize (st * 48271 + 13) % 2147483647 = s2 at n0 n1
        refine s_ret (ev_op (ev_op (ev_int (ev_op (ev_dget (ev_var rfl) ev_c upd_same bag_state) ev_c (rv_I ⟨by decide, by decide, by omega⟩))) ev_c (rv_I (by decide))) (ev_var rfl) (rv_I (by omega))) fun H4 e4 => ?_
        exact fin H4 _ b r s2 (e.trans (fun d o hd ne => e4 _ _ (by rw [upd_ne ne]; exact ((e1.trans e2).trans e3) _ _ hd))) (e4 _ _ upd_same) hb hr' n0 n1 (Int.emod_nonneg _ (by omega)) (Int.emod_lt_of_pos _ hm1)
end
end KB
set_option Elab.async false
set_option linter.all false
set_option maxRecDepth 100000
set_option maxHeartbeats 4000000
namespace KB
open PySem PySem.Spec PyProof.Rows L2 Evl
local macro_rules | `(tactic| walk_at "ev") => `(tactic| repeat' (first | exact ev_c | exact ev_var rfl | exact rv_I0 | refine' rv_I ?_ | refine' rv_eq ?_ | refine' rv_ne ?_ | refine' ev_op ?_ ?_ ?_ | exact ea_nil | refine' ea_cons ?_ ?_ | refine' et_test ?_ | refine' et_B ?_ | refine' et_not ?_ | refine' ev_notV ?_))

open PySem
/-! ### _law_same of two things of one shape -/
def At (H : Hp) (k : Bool) (p : Addr) (xs : List V) : Prop := H p = some (if k = true then .tup xs else .lst xs)
def tyN (k : Bool) : String := if k = true then "tuple" else "list"
inductive SD (H : Hp) : Nat → V → V → Prop
  | int (n : Nat) (i : Int) : SD H n (.int i) (.int i)
  | str (n : Nat) (s : Str) : SD H n (.str s) (.str s)
  | seq {n : Nat} (k : Bool) {p q : Addr} {xs ys : List V} (hp : At H k p xs) (hq : At H k q ys) (l : xs.length = ys.length) (short : ys.length ≤ 1000) (all : ∀ (i : Nat) (x y : V), xs[i]? = some x → ys[i]? = some y → SD H n x y) : SD H (n + 1) (.ref p) (.ref q)
theorem SD.mono {H H' : Hp} {n : Nat} {x y : V} (h : SD H n x y) (e : Ex H H') : SD H' n x y := by
  induction h with
  | int n i => exact .int n i
  | str n s => exact .str n s
  | seq k hp hq l short all ih => exact .seq k (e _ _ hp) (e _ _ hq) l short ih
def spSame (n : Nat) : Sp := fun vs H Q _ => ∃ x y : V, vs = [x, y] ∧ SD H n x y ∧ ∀ H', Ex H H' → Q (.bl true) H'
def spG : Nat → Sp
  | 0 => fun _ _ _ _ => False
  | n + 1 => spSame n
section
variable {K : PySem.W.Frag} {σ : L2.St} {H H' : Hp} {ta tb te : TE} {x y z v : V} {t : Value} {b k : Bool} {p : Addr} {xs : List V} {i : Nat}
theorem At.ty (h : At H k p xs) : TyX K H (.ref p) (.type (tyN k)) := by
  cases k with
  | true => exact .base (.tup h)
  | false => exact .base (.lst h)
theorem At.sq (h : At H k p xs) : SqL K H p xs ∨ SqT K H p xs := by
  cases k with
  | true => exact .inr (st_of h)
  | false => exact .inl (sq_of h)
theorem ev_isiT2 (ha : Ev ta σ H x) (ty : ∀ H', Ex H H' → TyX K H' x t) (e : PySem.W.kitAny K t [.type "tuple", .type "list"] = some b) : Ev (tCB (rIsiT K) (tCons ta (tCons (tTup (tCons (tC (.ty "tuple")) (tCons (tC (.ty "list")) tNil))) tNil))) σ H (.bl b) := fun H1 e1 Q q =>
  ha H1 e1 _ fun H2 e2 => ⟨by show 2 ≤ sizeLine; decide, fun tp ht => ⟨x, tp, [.ty "tuple", .ty "list"], t, [.type "tuple", .type "list"], b, rfl, upd_same, .cons (.ty _) (.cons (.ty _) .nil), ty _ ((e1.trans e2).trans (Ex.new ht)), e, q _ (e2.trans (Ex.new ht))⟩⟩
theorem ev_lenX (ha : Ev ta σ H (.ref p)) (h : At H k p xs) : Ev (tCB (fun xs H Q => ∃ p ys, xs = [V.ref p] ∧ (SqL K H p ys ∨ SqT K H p ys) ∧ Q (.int (ys.length : Nat)) H) (tCons ta tNil)) σ H (.int (xs.length : Nat)) := fun H1 e Q q =>
  ha H1 e _ fun H2 e2 => ⟨p, xs, rfl, At.sq (k := k) (e2 _ _ (e _ _ h)), q H2 e2⟩
theorem rv_ixX (h : At H k p xs) (hx : xs[i]? = some x) : RV (rIx K) (.ref p) (.int (i : Nat)) H x := fun H1 e Q q => by
  have h1 : At H1 k p xs := e _ _ h
  rcases h1.sq (K := K) with s | s
  · exact .inl ⟨p, xs, i, x, rfl, rfl, s, atI_nat hx, q H1 (Ex.refl H1)⟩
  · exact .inr (.inl ⟨p, xs, i, x, rfl, rfl, s, atI_nat hx, q H1 (Ex.refl H1)⟩)
theorem rv_isN {x : V} : RV (fun x y H Q => y = .non ∧ Q (.bl (decide (x = .non))) H) x .non H (.bl (decide (x = .non))) := fun H1 _ _ q => ⟨rfl, q H1 (Ex.refl H1)⟩
theorem kit_seq (k : Bool) : PySem.W.kitAny K (.type (tyN k)) [.type "tuple", .type "list"] = some true := by
  cases k with
  | true => exact kitAny_cons (b := true) (kit_ty (by decide +kernel)) (fun z => nomatch z) (fun _ => rfl)
  | false => exact kitAny_cons (b := false) (kit_ty (by decide +kernel)) (fun _ => kitAny_cons (b := true) (kit_ty (by decide +kernel)) (fun z => nomatch z) (fun _ => rfl)) (fun z => nomatch z)
theorem kit_tup (k : Bool) : PySem.W.kitOne K (.type (tyN k)) (.type "tuple") = some k := by
  cases k with
  | true => exact kit_ty (by decide +kernel)
  | false => exact kit_ty (by decide +kernel)
theorem kit_nseq {n : String} (h1 : kitB n "tuple" = some false) (h2 : kitB n "list" = some false) : PySem.W.kitAny K (.type n) [.type "tuple", .type "list"] = some false :=
  kitAny_cons (b := false) (kit_ty h1) (fun _ => kitAny_cons (b := false) (kit_ty h2) (fun _ => rfl) (fun z => nomatch z)) (fun z => nomatch z)
end
section
variable {P : Program} {w : World} {K : PySem.W.Frag} {mg : Str → Option Value} {base : Heap} {a : Ads}
theorem ok_sameG (T : Txt w K mg a) : ∀ n, FnOk P w K mg base CX0 n a.f__law_same a.d__law_same ["_law_actual", "_law_expected"] (spG n)
  | 0 => ⟨fun _ _ _ _ h => h.elim, fun _ _ _ _ _ _ _ _ _ _ _ _ _ h => h.elim⟩
  | n + 1 => by
    have G__law_same : FnOk P w K mg base CX0 n _ _ _ _ := ok_sameG T n
    refine T.fn__law_same.ok sc__law_same (fun vs H Q E h => ?_) (fun cdv A outer s H vs Q E hr h => ?_)
    · obtain ⟨_, _, rfl, _⟩ := h
      rfl
    · obtain ⟨x, y, rfl, sd, k⟩ := h
      have hrc : Room n _ := hr
      refine ⟨_, (pss_cons (ps_if (pt_val (pe_callB call_isiT (by rfl) T.b_isinstance PyProof.Rows.boot_isinstance (pa_cons (pv 1) (pa_cons (pe_tup (pa_cons (pe_bltn (v := .ty "tuple") (by rfl) T.b_tuple (by decide +kernel) rfl) (pa_cons (pe_bltn (v := .ty "list") (by rfl) T.b_list (by decide +kernel) rfl) pa_nil))) pa_nil)))) (pss_cons (ps_if (PW.pt (pw_or (pt_cmpR op_ne (pe_callB call_isi (by rfl) T.b_isinstance PyProof.Rows.boot_isinstance (pa_cons (pv 1) (pa_cons (pe_bltn (v := .ty "tuple") (by rfl) T.b_tuple (by decide +kernel) rfl) pa_nil))) (pe_callB call_isi (by rfl) T.b_isinstance PyProof.Rows.boot_isinstance (pa_cons (pv 0) (pa_cons (pe_bltn (v := .ty "tuple") (by rfl) T.b_tuple (by decide +kernel) rfl) pa_nil))) (nomark _)) (pw_or1 (pt_not (pt_val (pe_callB call_isiT (by rfl) T.b_isinstance PyProof.Rows.boot_isinstance (pa_cons (pv 0) (pa_cons (pe_tup (pa_cons (pe_bltn (v := .ty "tuple") (by rfl) T.b_tuple (by decide +kernel) rfl) (pa_cons (pe_bltn (v := .ty "list") (by rfl) T.b_list (by decide +kernel) rfl) pa_nil))) pa_nil)))))))) (pss_one (ps_ret pe_bl)) pss_nil)
    (pss_cons (ps_if (pt_cmpR op_ne (pe_callB call_len_seq (by rfl) T.b_len PySem.boot_len (pa_cons (pv 0) pa_nil)) (pe_callB call_len_seq (by rfl) T.b_len PySem.boot_len (pa_cons (pv 1) pa_nil)) (nomark _)) (pss_one (ps_ret pe_bl)) pss_nil)
    (pss_cons (ps_for PassesOwn.never rfl (pi_range1 rfl T.b_range (pa_cons (pe_callB call_len_seq (by rfl) T.b_len PySem.boot_len (pa_cons (pv 1) pa_nil)) pa_nil)) (pg_name (i := 2) sc__law_same.nd rfl (Or.inl rfl)) (pss_one (ps_if (pt_not (pt_val (pe_call G__law_same hrc rfl T.mg__law_same T.fn__law_same.kp (bd__law_same T) .nil pass0 (pa_cons (pe_ix ix_seq (pv 0) (pv 2) (fun _ _ => rfl)) (pa_cons (pe_ix ix_seq (pv 1) (pv 2) (fun _ _ => rfl)) pa_nil))))) (pss_one (ps_ret pe_bl)) pss_nil)))
    (pss_one (ps_ret pe_bl))))) pss_nil)
    (pss_cons (ps_if (pt_cmpR op_isN (pv 1) pe_non (nomark _)) (pss_one (ps_ret (pe_cmpR op_isN (pv 0) pe_non (nomark _)))) pss_nil)
    (pss_cons (ps_if (pt_val (pe_callB call_isi (by rfl) T.b_isinstance PyProof.Rows.boot_isinstance (pa_cons (pv 1) (pa_cons (pe_bltn (v := .ty "bool") (by rfl) T.b_bool (by decide +kernel) rfl) pa_nil)))) (pss_one (ps_ret (pe_and (pe_callB call_isi (by rfl) T.b_isinstance PyProof.Rows.boot_isinstance (pa_cons (pv 0) (pa_cons (pe_bltn (v := .ty "bool") (by rfl) T.b_bool (by decide +kernel) rfl) pa_nil))) (pe_one (pe_cmpR op_eq (pv 0) (pv 1) (nomark _)))))) pss_nil)
    (pss_cons (ps_if (pt_val (pe_callB call_isi (by rfl) T.b_isinstance PyProof.Rows.boot_isinstance (pa_cons (pv 1) (pa_cons (pe_bltn (v := .ty "int") (by rfl) T.b_int (by decide +kernel) rfl) pa_nil)))) (pss_one (ps_ret (pe_and (pe_callB call_isi (by rfl) T.b_isinstance PyProof.Rows.boot_isinstance (pa_cons (pv 0) (pa_cons (pe_bltn (v := .ty "int") (by rfl) T.b_int (by decide +kernel) rfl) pa_nil))) (pe_and (pe_not (pe_callB call_isi (by rfl) T.b_isinstance PyProof.Rows.boot_isinstance (pa_cons (pv 0) (pa_cons (pe_bltn (v := .ty "bool") (by rfl) T.b_bool (by decide +kernel) rfl) pa_nil)))) (pe_one (pe_cmpR op_eq (pv 0) (pv 1) (nomark _))))))) pss_nil)
    (pss_one (ps_ret (pe_and (pe_callB call_isi (by rfl) T.b_isinstance PyProof.Rows.boot_isinstance (pa_cons (pv 0) (pa_cons (pe_bltn (v := .ty "str") (by rfl) T.b_str (by decide +kernel) rfl) pa_nil))) (pe_one (pe_cmpR op_eq (pv 0) (pv 1) (nomark _)))))))))), ?_⟩
      cases sd with
      | int _ i =>
        refine q_when (b := false) (et_B (ev_isiT2 (K := K) (ev_var rfl) (fun _ _ => .base (.int _)) (kit_nseq (by decide +kernel) (by decide +kernel)))) (fun z => nomatch z) fun _ H1 e1 => ?_
        refine q_when (b := false) (et_is (et_test (ev_op (ev_var rfl) ev_c rv_isN)) rfl) (fun z => nomatch z) fun _ H2 e2 => ?_
        refine q_when (b := false) (et_B (ev_isi (ea_cons (ev_var rfl) (ea_cons ev_c ea_nil)) (.ty _) (fun _ _ => .base (.int _)) (kit_ty (by decide +kernel)))) (fun z => nomatch z) fun _ H3 e3 => ?_
        refine q_when (b := true) (et_B (ev_isi (ea_cons (ev_var rfl) (ea_cons ev_c ea_nil)) (.ty _) (fun _ _ => .base (.int _)) (kit_ty (by decide +kernel)))) (fun _ H4 e4 => ?_) (fun z => nomatch z)
        exact s_ret (v := .bl true) (ev_is (ev_andV (a := true) (ev_isi (ea_cons (ev_var rfl) (ea_cons ev_c ea_nil)) (.ty _) (fun _ _ => .base (.int _)) (kit_ty (by decide +kernel))) fun _ => ev_andV (a := true) (ev_is (ev_notV (a := false) (ev_isi (ea_cons (ev_var rfl) (ea_cons ev_c ea_nil)) (.ty _) (fun _ _ => .base (.int _)) (kit_ty (by decide +kernel)))) rfl) fun _ => ev_op (ev_var rfl) (ev_var rfl) (rv_eq rfl)) (by simp)) fun H5 e5 => k H5 ((((e1.trans e2).trans e3).trans e4).trans e5)
      | str _ st =>
        refine q_when (b := false) (et_B (ev_isiT2 (K := K) (ev_var rfl) (fun _ _ => .base (.str _)) (kit_nseq (by decide +kernel) (by decide +kernel)))) (fun z => nomatch z) fun _ H1 e1 => ?_
        refine q_when (b := false) (et_is (et_test (ev_op (ev_var rfl) ev_c rv_isN)) rfl) (fun z => nomatch z) fun _ H2 e2 => ?_
        refine q_when (b := false) (et_B (ev_isi (ea_cons (ev_var rfl) (ea_cons ev_c ea_nil)) (.ty _) (fun _ _ => .base (.str _)) (kit_ty (by decide +kernel)))) (fun z => nomatch z) fun _ H3 e3 => ?_
        refine q_when (b := false) (et_B (ev_isi (ea_cons (ev_var rfl) (ea_cons ev_c ea_nil)) (.ty _) (fun _ _ => .base (.str _)) (kit_ty (by decide +kernel)))) (fun z => nomatch z) fun _ H4 e4 => ?_
        exact s_ret (v := .bl true) (ev_is (ev_andV (a := true) (ev_isi (ea_cons (ev_var rfl) (ea_cons ev_c ea_nil)) (.ty _) (fun _ _ => .base (.str _)) (kit_ty (by decide +kernel))) fun _ => ev_op (ev_var rfl) (ev_var rfl) (rv_eq rfl)) (by simp)) fun H5 e5 => k H5 ((((e1.trans e2).trans e3).trans e4).trans e5)
      | @seq m kd p q xs ys hp hq l short all =>
        refine q_when (b := true) (et_B (ev_isiT2 (K := K) (ev_var rfl) (fun H' e' => At.ty (k := kd) (e' _ _ hq)) (kit_seq kd))) (fun _ H1 e1 => ?_) (fun z => nomatch z)
        have hp1 : At H1 kd p xs := e1 _ _ hp
        have hq1 : At H1 kd q ys := e1 _ _ hq
        refine q_when (b := false) (et_is (et_or (et_test (ev_op (ev_isi (ea_cons (ev_var rfl) (ea_cons ev_c ea_nil)) (.ty _) (fun H' e' => At.ty (k := kd) (e' _ _ hq1)) (kit_tup kd)) (ev_isi (ea_cons (ev_var rfl) (ea_cons ev_c ea_nil)) (.ty _) (fun H' e' => At.ty (k := kd) (e' _ _ hp1)) (kit_tup kd)) (rv_ne rfl))) fun _ => et_not (a := true) (et_B (ev_isiT2 (K := K) (ev_var rfl) (fun H' e' => At.ty (k := kd) (e' _ _ hp1)) (kit_seq kd)))) (by simp)) (fun z => nomatch z) fun _ H2 e2 => ?_
        have hp2 : At H2 kd p xs := e2 _ _ hp1
        have hq2 : At H2 kd q ys := e2 _ _ hq1
        refine q_when (b := false) (et_is (et_test (ev_op (ev_lenX (K := K) (ev_var rfl) hp2) (ev_lenX (K := K) (ev_var rfl) hq2) (rv_ne rfl))) (by rw [l]; simp)) (fun z => nomatch z) fun _ H3 e3 => ?_
        have e03 := (e1.trans e2).trans e3
        have hq3 : At H3 kd q ys := e3 _ _ hq2
        refine q_forR1 (n := (ys.length : Nat)) (ea_cons (ev_lenX (K := K) (ev_var rfl) hq3) ea_nil) (by omega) (fun j σ' H' => ∃ o2, σ' = [some (.ref p), some (.ref q), o2] ∧ Ex H H') (fun H4 e4 => ⟨_, rfl, e03.trans e4⟩) (fun j σ' H4 hj inv => ?_) (fun σ' H4 inv => ?_)
        · obtain ⟨o2, rfl, e4⟩ := inv
          have hj2 : j < ys.length := by omega
          have hj1 : j < xs.length := by omega
          have hp4 : At H4 kd p xs := e4 _ _ hp
          have hq4 : At H4 kd q ys := e4 _ _ hq
          refine s_when (b := false) (et_not (a := true) (et_B (ev_call (vs := [xs[j], ys[j]]) (ea_cons (ev_op (ev_var rfl) (ev_var rfl) (rv_ixX (K := K) hp4 (by simp [hj1]))) (ea_cons (ev_op (ev_var rfl) (ev_var rfl) (rv_ixX (K := K) hq4 (by simp [hj2]))) ea_nil)) fun H5 e5 Q5 q5 E5 => ⟨xs[j], ys[j], rfl, (all j _ _ (by simp [hj1]) (by simp [hj2])).mono (e4.trans e5), q5⟩))) (fun z => nomatch z) fun _ H5 e5 => ⟨_, rfl, e4.trans e5⟩
        · obtain ⟨o2, rfl, e4⟩ := inv
          exact s_ret (v := .bl true) ev_c fun H5 e5 => k H5 (e4.trans e5)
end
end KB
set_option Elab.async false
set_option linter.all false
set_option maxRecDepth 100000
set_option maxHeartbeats 4000000
namespace KB
open PySem PySem.Spec PyProof.Rows L2 Evl
local macro_rules | `(tactic| walk_at "ev") => `(tactic| repeat' (first | exact ev_c | exact ev_var rfl | exact rv_I0 | refine' rv_I ?_ | refine' rv_eq ?_ | refine' rv_ne ?_ | refine' ev_op ?_ ?_ ?_ | exact ea_nil | refine' ea_cons ?_ ?_ | refine' et_test ?_ | refine' et_B ?_ | refine' et_not ?_ | refine' ev_notV ?_))

open PySem
/-! the signs of a text, counted -/
structure CountAt (x : Str) (t : Tok) (e it : Addr) (i : Nat) (h : Heap) : Prop where
  en : ∃ old, IsEnum h e it (i : Int) old
  txt : h.IsStrIter it (strIterType x) x t i
theorem two {p : Addr → Prop} {c1 c2 : Addr} (a1 : p c1) (a2 : p c2) : ∀ c ∈ [c1, c2], p c := List.forall_mem_cons.mpr ⟨a1, List.forall_mem_cons.mpr ⟨a2, List.forall_mem_nil _⟩⟩
theorem off2 {c c1 c2 : Addr} (h : c ∉ [c1, c2]) : c ≠ c1 ∧ c ≠ c2 := by
  simp only [List.mem_cons, List.not_mem_nil, or_false, not_or] at h
  exact h
section
variable {x : Str} {t : Tok} {e it : Addr} {i : Nat} {h h' : Heap}
theorem CountAt.obj (q : CountAt x t e it i h) : ∀ c ∈ [e, it], ∃ o, h.get? c = some o ∧ ∀ v, o.data ≠ .cell v := by
  obtain ⟨old, he⟩ := q.en
  obtain ⟨p1, g1, _, n1⟩ := q.txt
  exact two ⟨_, he, nofun⟩ ⟨p1, g1, by rw [n1]; exact nofun⟩
theorem CountAt.lt (q : CountAt x t e it i h) : ∀ c ∈ [e, it], c < h.objs.size := fun c m => let ⟨_, g, _⟩ := q.obj c m; Heap.lt_size g
theorem CountAt.keep (q : CountAt x t e it i h) (k : ∀ c ∈ [e, it], ∀ o, h.get? c = some o → h'.get? c = some o) : CountAt x t e it i h' := by
  obtain ⟨old, he⟩ := q.en
  obtain ⟨p1, g1, n1⟩ := q.txt
  refine ⟨⟨old, k e ?_ _ he⟩, ⟨p1, k it ?_ _ g1, n1⟩⟩ <;> simp
end
/-- pairs of a number and a sign -/
def ItEn (x : Str) : It :=
  ⟨fun i _ => i < x.cps.size, fun i H v H' => ∃ (T : Addr) (c : Nat), v = .ref T ∧ H T = none ∧ H' = upd H T (.tup [.int (i : Nat), .str ⟨#[c]⟩]) ∧ x.cps[i]? = some c, fun i _ => i = x.cps.size⟩
theorem turn_enS {P : Program} {w : World} {K : PySem.W.Frag} {elts : List Expr} {kk : Nat} {tpos : Pos} {x : Str} {t : Tok} {e it : Addr} (ne : e ≠ it) :
    Turn P w K (.Tuple elts kk tpos) (ItEn x) [e, it] e (CountAt x t e it) where
  mem := List.mem_cons_self ..
  obj := fun _ _ q => q.obj
  keep := fun _ _ _ q k => q.keep k
  self := fun _ _ _ _ _ q k => let ⟨_, he⟩ := q.en; wpAny_pyIter_enum he k
  item := by
    intro X e1 e2 e3 calm i pins s σ H E I free st more
    subst e1 e2 e3
    have quiet : X.A.in1.handled = none := I.ok.hd calm
    obtain ⟨old, he⟩ := st.en
    refine wpAny_pyNext_enum_itemC (Draws.text quiet it x t) he st.txt more ne (fun m => ne (List.mem_singleton.mp m)) fun w1 g tk src out s1 gT _ rest => ?_
    obtain ⟨c, t1, hc, rfl⟩ := src
    have elt := st.lt e (List.mem_cons_self ..)
    refine ⟨_, rfl, wpAny_letOwnedTupleGo_enum (s := { s with heap := g, toks := tk + 1 }) out fun g' en' but => ?_⟩
    have gT' := (but.2 _ (Nat.ne_of_gt elt)).trans gT
    have pair : ObjOk X.prog X.w (upd H s.heap.objs.size (.tup [.int (i : Nat), .str ⟨#[c]⟩])) g' s.heap.objs.size (.tup [.int (i : Nat), .str ⟨#[c]⟩]) := ⟨by show 2 ≤ sizeLine; decide, [.int (i : Nat) tk, .str ⟨#[c]⟩ t1], .cons ⟨tk, rfl⟩ (.cons ⟨t1, rfl⟩ .nil), ⟨_, gT', rfl, _, rfl⟩⟩
    have far : ∀ c' o, c' ∉ [e, it] → s.heap.get? c' = some o → g'.get? c' = some o := fun c' o n q => by
      obtain ⟨n1, n2⟩ := off2 n
      exact (but.2 c' n1).trans (rest c' o n1 n2 q)
    refine ⟨.ref s.heap.objs.size, _, I.turnedNew (t' := tk + 1) (ch := [e, it]) far free (Nat.le_refl _) pair, rfl, ⟨_, c, rfl, I.hok.fresh (Nat.le_refl _), rfl, hc⟩, ?_, fun c' m => ?_⟩
    · obtain ⟨p1, q1, r1⟩ := s1
      refine ⟨⟨.str ⟨#[c]⟩ t1, ?_⟩, ⟨p1, (but.2 _ ne.symm).trans q1, r1⟩⟩
      rw [show ((i + 1 : Nat) : Int) = (i : Int) + 1 by omega]
      exact en'
    · exact (upd_ne (Nat.ne_of_lt (st.lt c' m))).trans (free c' m).1
  done := by
    intro X e1 e2 e3 calm i pins s σ H E I free st over
    subst e1 e2 e3
    have over : i = x.cps.size := over
    subst over
    have quiet : X.A.in1.handled = none := I.ok.hd calm
    obtain ⟨old, he⟩ := st.en
    exact wpAny_pyNext_enum_endD (Draws.text quiet it x t) he st.txt fun g rest => ⟨rfl, I.turnedL (t' := s.toks) (ch := [e, it]) (fun c o n q => rest c o (off2 n).2 q) free⟩
def iEnS (te : TE) : TI := fun σ H R => te σ H fun v H1 => ∃ x, v = .str x ∧ R (ItEn x) H1
theorem pi_enS {X : Cx} {d : Expr} {te : TE} {p pos tpos : Pos} {elts : List Expr} {kk : Nat} (hg : Gl X "enumerate") (hm : X.mg "enumerate" = none) (ha : PE X d te) (flat : starEach [d] X.env = (false, eval d X.env) :: starEach [] X.env := by rfl)
    (plain : (backTo pos (starEach [] X.env)).any (·.1) = false := by rfl) : PI X (.Tuple elts kk tpos) (.Call (.Name "enumerate" p) [d] [] pos) (iEnS te) where
  run := fun pins s σ H R I start => by
    have one : PA X [d] (tCons te tNil) := pa_cons (hs := flat) ha pa_nil
    refine Call_ (ld_blt I hg hm PyProof.Rows.boot_enumerate (PyProof.Rows.callWith_type1 (thn (one.run pos pins s σ H (fun vs H1 => ∃ x, vs = [.str x] ∧ R (ItEn x) H1) I ?st) fun us s1 ⟨vs, H1, J, r, q⟩ => ?_) flat plain))
    case st =>
      show te σ H fun v H1 => ∃ x, [v] = [V.str x] ∧ R (ItEn x) H1
      have : (fun v H1 => ∃ x, v = V.str x ∧ R (ItEn x) H1) = fun v H1 => ∃ x, [v] = [V.str x] ∧ R (ItEn x) H1 := by
        funext v H1
        simp
      rw [← this]
      exact start
    obtain ⟨x, ev, go⟩ := q
    subst ev
    cases r with | cons q1 q2 => ?_
    cases q2
    obtain ⟨t, rfl⟩ := q1
    have young : ∀ j, FpOk X pins H1 (s1.heap.objs.size + j) := fun j => J.fpOk (Nat.le_add_right ..) (J.hok.fresh (Nat.le_add_right ..))
    refine call_enumerate_str fun g gE g1 _ rest => wpAny_pyIter_enum gE ?_
    exact ⟨s1.heap.objs.size + 1, _, CountAt x t (s1.heap.objs.size + 1) s1.heap.objs.size, ItEn x, H1, rfl, J.kept (t' := s1.toks) rest, turn_enS (Nat.succ_ne_self _), ⟨⟨_, gE⟩, g1⟩, two (young 1) (young 0), go⟩
section
variable {K : PySem.W.Frag} {σ : L2.St} {H H' : Hp} {ta tb te tx tv : TE} {t : TT} {x y z v : V} {r : R2} {D : Ends} {tz tu : TS}
theorem q_forEnS {s : Str} {i1 i2 : Nat} (h : Ev te σ H (.str s)) (Pv : Nat → L2.St → Hp → Prop) (h0 : ∀ H1, Ex H H1 → Pv 0 σ H1)
    (hs : ∀ (i c : Nat) σ' H', s.cps.toList[i]? = some c → Pv i σ' H' → ∀ H2, Ex H' H2 → tu { D with nx := Pv (i + 1), ct := Pv (i + 1), bk := tz D } ((σ'.set i1 (some (.int (i : Nat)))).set i2 (some (.str ⟨#[c]⟩))) H2) (hd : ∀ σ' H', Pv s.cps.size σ' H' → tz D σ' H') :
    tSeq (tFor (iEnS te) (gTup K 2 (gCons (gName i1) (gCons (gName i2) gNil))) tu) tz D σ H :=
  h H (Ex.refl H) _ fun H1 e1 => ⟨s, rfl, fun i m σ' H' => m = s.cps.size - i ∧ i ≤ s.cps.size ∧ Pv i σ' H', ⟨s.cps.size, by simp, Nat.zero_le _, h0 H1 e1⟩, by
    rintro i m σ' H' ⟨rfl, hi, p⟩
    by_cases hlt : i < s.cps.size
    · refine .inr ⟨hlt, Pv (i + 1), fun σ2 H2 p' => ⟨s.cps.size - (i + 1), by omega, rfl, hlt, p'⟩, ?_⟩
      rintro x H2 ⟨T, c, rfl, hT, rfl, hc⟩
      rw [← Array.getElem?_toList] at hc
      exact ⟨T, _, rfl, st_of upd_same, rfl, _, _, rfl, _, _, rfl, rfl, hs i c σ' H' hc p _ (Ex.new hT)⟩
    · have e : i = s.cps.size := by omega
      subst e
      exact .inl ⟨rfl, hd σ' H' p⟩⟩
theorem ev_slS {tl th : TO} {s : Str} {lo hi : Option Int} (h : Ev te σ H (.str s)) (h1 : EvO tl σ H lo) (h2 : EvO th σ H hi) (hz : s.length ≤ 100000) : Ev (tSl rSlS te tl th) σ H (.str (cutS s lo hi)) := fun H1 e Q q =>
  h H1 e _ fun H2 e2 => h1 H2 (e.trans e2) _ fun H3 e3 => h2 H3 ((e.trans e2).trans e3) _ fun H4 e4 => ⟨s, rfl, sz_of hz, q H4 ((e2.trans e3).trans e4)⟩
end
end KB
set_option Elab.async false
set_option linter.all false
set_option maxRecDepth 100000
set_option maxHeartbeats 4000000
namespace KB
open PySem PySem.Spec PyProof.Rows L2 Evl
local macro_rules | `(tactic| walk_at "ev") => `(tactic| repeat' (first | exact ev_c | exact ev_var rfl | exact rv_I0 | refine' rv_I ?_ | refine' rv_eq ?_ | refine' rv_ne ?_ | refine' ev_op ?_ ?_ ?_ | exact ea_nil | refine' ea_cons ?_ ?_ | refine' et_test ?_ | refine' et_B ?_ | refine' et_not ?_ | refine' ev_notV ?_))

open PySem
/-! x(e, ..), x(*e): a class that a local name holds -/
def tMakeV (i : Nat) (C : Addr) (sp : Sp) (E : XK) (t : TA) : TE := fun σ H Q => σ[i]? = some (some (.ref C)) ∧ StX.tMakeR C sp E t σ H Q
section
variable {X : Cx} {CX : CXT} {k i : Nat} {f C : Addr} {sp : Sp} {E : XK} {x : Str} {e : Expr} {es : List Expr} {te : TE} {t : TA} {p q pos : Pos}
theorem pe_makeV (M : Mk X.K C f) (F : FnR X.prog X.w X.K X.mg X.base CX k f sp) (room : Room (k + 1) X.A) (hx : Passes CX X E) (hN : X.N[i]? = some x) (hv : Vis X.env.scope x) (ha : PA X (e :: es) t) (hd : (x == ("__debug__" : Str)) = false := by decide)
    (hcd : (x == ("__classdict__" : Str)) = false := by decide) (first : starEach (e :: es) X.env = (false, eval e X.env) :: starEach es X.env := by rfl) (plain : (backTo pos (starEach es X.env)).any (·.1) = false := by rfl) :
    PE X (.Call (.Name x p) (e :: es) [] pos) (tMakeV i C sp E t) where
  run := fun pins s σ H Q I ⟨here, go⟩ => by
    refine wpAny_Call_Name_kw (thn ((pe_var (pos := p) (i := i) hN hv hd hcd).run pins s σ H (fun v H1 => v = .ref C ∧ H1 = H) I ⟨.ref C, here, rfl, rfl⟩) fun u s1 ⟨v, H1, I1, r1, ev, eH⟩ => ?_)
    subst ev eH
    obtain rfl : u = Value.ref C := r1
    exact PySem.W.callWith_K (h₀ := X.base) I.ok.mod.kin M.kp (thn (ha.run pos pins s1 σ _ _ I1 go) fun us s2 ⟨vs, H2, I2, r, want⟩ => ⟨I2.kIn, StX.run_makeR M F room hx I2 r want⟩) first plain
theorem pe_makeVS (M : Mk X.K C f) (F : FnR X.prog X.w X.K X.mg X.base CX k f sp) (room : Room (k + 1) X.A) (hx : Passes CX X E) (hN : X.N[i]? = some x) (hv : Vis X.env.scope x) (he : PE X e te) (hd : (x == ("__debug__" : Str)) = false := by decide)
    (hcd : (x == ("__classdict__" : Str)) = false := by decide) (star : starEach [.Starred e q] X.env = [(true, eval e X.env)] := by rfl) :
    PE X (.Call (.Name x p) [.Starred e q] [] pos) (tMakeV i C sp E fun σ H Q => te σ H fun y H1 => ∃ b xs, y = V.ref b ∧ (SqT X.K H1 b xs ∨ SqL X.K H1 b xs) ∧ Q xs H1) where
  run := fun pins s σ H Q I ⟨here, go⟩ => by
    refine wpAny_Call_Name_kw (thn ((pe_var (pos := p) (i := i) hN hv hd hcd).run pins s σ H (fun v H1 => v = .ref C ∧ H1 = H) I ⟨.ref C, here, rfl, rfl⟩) fun u s1 ⟨v, H1, I1, r1, ev, eH⟩ => ?_)
    subst ev eH
    obtain rfl : u = Value.ref C := r1
    refine PySem.W.callWith_S (h₀ := X.base) I.ok.mod.kin M.kp (thn (he.run pins s1 σ _ _ I1 go) fun v s2 ⟨y, H2, I2, ry, b, xs, ey, sq, want⟩ => ?_) star
    subst ey
    obtain rfl : v = Value.ref b := ry
    exact StX.star_any I2 sq fun us s3 I3 rv => ⟨I3.kIn, StX.run_makeR M F room hx I3 rv want⟩
end
end KB
set_option Elab.async false
set_option linter.all false
set_option maxRecDepth 100000
set_option maxHeartbeats 4000000
namespace KB
open PySem PySem.Spec PyProof.Rows L2 Evl
local macro_rules | `(tactic| walk_at "ev") => `(tactic| repeat' (first | exact ev_c | exact ev_var rfl | exact rv_I0 | refine' rv_I ?_ | refine' rv_eq ?_ | refine' rv_ne ?_ | refine' ev_op ?_ ?_ ?_ | exact ea_nil | refine' ea_cons ?_ ?_ | refine' et_test ?_ | refine' et_B ?_ | refine' et_not ?_ | refine' ev_notV ?_))

open PySem
/-! a text and a tuple, side by side -/
theorem five {p : Addr → Prop} {c1 c2 c3 c4 c5 : Addr} (a1 : p c1) (a2 : p c2) (a3 : p c3) (a4 : p c4) (a5 : p c5) : ∀ c ∈ [c1, c2, c3, c4, c5], p c :=
  List.forall_mem_cons.mpr ⟨a1, List.forall_mem_cons.mpr ⟨a2, List.forall_mem_cons.mpr ⟨a3, List.forall_mem_cons.mpr ⟨a4, List.forall_mem_cons.mpr ⟨a5, List.forall_mem_nil _⟩⟩⟩⟩⟩
theorem off5 {c c1 c2 c3 c4 c5 : Addr} (h : c ∉ [c1, c2, c3, c4, c5]) : c ≠ c1 ∧ c ≠ c3 ∧ c ≠ c4 ∧ c ≠ c5 := by
  simp only [List.mem_cons, List.not_mem_nil, or_false, not_or] at h
  exact ⟨h.1, h.2.2.1, h.2.2.2⟩
/-- where the two iterators, their pair and the zip stand, i turns on -/
structure SideAt (x : Str) (t : Tok) (b z TI TO i1 i2 : Addr) (i : Nat) (h : Heap) : Prop where
  zip : IsZip h z TI TO .none
  its : IsTupOf2 h TI (.ref i1) (.ref i2)
  out : ∃ v1 v2, IsTupOf2 h TO v1 v2
  txt : h.IsStrIter i1 (strIterType x) x t i
  tup : h.IsTupleIter i2 b i
section
variable {x : Str} {t : Tok} {b z TI TO i1 i2 : Addr} {i : Nat} {h h' : Heap}
theorem SideAt.obj (q : SideAt x t b z TI TO i1 i2 i h) : ∀ c ∈ [z, TI, TO, i1, i2], ∃ o, h.get? c = some o ∧ ∀ v, o.data ≠ .cell v := by
  obtain ⟨v1, v2, ho⟩ := q.out
  obtain ⟨p1, g1, _, n1⟩ := q.txt
  obtain ⟨p2, g2, _, n2⟩ := q.tup
  exact five ⟨_, q.zip, nofun⟩ ⟨_, q.its, nofun⟩ ⟨_, ho, nofun⟩ ⟨p1, g1, by rw [n1]; exact nofun⟩ ⟨p2, g2, by rw [n2]; exact nofun⟩
theorem SideAt.lt (q : SideAt x t b z TI TO i1 i2 i h) : ∀ c ∈ [z, TI, TO, i1, i2], c < h.objs.size := fun c m => let ⟨_, e, _⟩ := q.obj c m; Heap.lt_size e
theorem SideAt.keep (q : SideAt x t b z TI TO i1 i2 i h) (k : ∀ c ∈ [z, TI, TO, i1, i2], ∀ o, h.get? c = some o → h'.get? c = some o) : SideAt x t b z TI TO i1 i2 i h' := by
  obtain ⟨v1, v2, ho⟩ := q.out
  obtain ⟨p1, g1, n1⟩ := q.txt
  refine ⟨k z ?_ _ q.zip, k TI ?_ _ q.its, ⟨v1, v2, k TO ?_ _ ho⟩, ⟨p1, k i1 ?_ _ g1, n1⟩, q.tup.at fun o e => k i2 ?_ o e⟩ <;> simp
end
/-- what a walk over both gives: pairs of a sign and an item -/
def ItzS (K : PySem.W.Frag) (x : Str) (b : Addr) : It :=
  ⟨fun i H => ∃ (ys : List V) (c : Nat) (y : V), SqT K H b ys ∧ x.cps[i]? = some c ∧ ys[i]? = some y,
    fun i H v H' => ∃ (T : Addr) (c : Nat) (y : V), v = .ref T ∧ H T = none ∧ H' = upd H T (.tup [.str ⟨#[c]⟩, y]) ∧ x.cps[i]? = some c ∧ ∀ ys, SqT K H b ys → ys[i]? = some y,
    fun i H => ∃ ys : List V, SqT K H b ys ∧ ys.length = x.cps.size ∧ i = ys.length⟩
theorem turn_zipS {P : Program} {w : World} {K : PySem.W.Frag} {elts : List Expr} {kk : Nat} {tpos : Pos} {x : Str} {t : Tok} {b z TI TO i1 i2 : Addr} (S : ZipSep2 z TI TO i1 i2 [i1] [i2, b]) (hb : b ≠ i2) :
    Turn P w K (.Tuple elts kk tpos) (ItzS K x b) [z, TI, TO, i1, i2] z (SideAt x t b z TI TO i1 i2) where
  mem := List.mem_cons_self ..
  obj := fun _ _ q => q.obj
  keep := fun _ _ _ q k => q.keep k
  self := fun _ _ _ _ _ q k => wpAny_pyIter_zip q.zip k
  item := by
    intro X e1 e2 e3 calm i pins s σ H E I free st more
    subst e1 e2 e3
    obtain ⟨ys, c, y, seq, hx, hy⟩ := more
    obtain ⟨us, ru, isT, _⟩ := I.tuple seq
    obtain ⟨u, hu, ry⟩ := ru.get hy
    have quiet : X.A.in1.handled = none := I.ok.hd calm
    have in1 : i < x.cps.size := (Array.getElem?_eq_some_iff.mp hx).1
    have in2 : i < us.toArray.size := by simpa using (List.getElem?_eq_some_iff.mp hu).1
    obtain ⟨v1, v2, out⟩ := st.out
    refine wpAny_pyNext_zipD2_item S (Draws.text quiet i1 x t) (Draws.tuple quiet i2 b hb us.toArray) st.zip st.its out st.txt ⟨st.tup, isT⟩ in1 in2 fun w1 w2 g tk ⟨c1, t1, hc1, ew⟩ hw2 gz gO g1 g2 gT _ rest => ?_
    subst ew
    obtain rfl : c = c1 := Option.some.inj (hx.symm.trans hc1)
    obtain rfl : u = w2 := Option.some.inj ((show us.toArray[i]? = some u by simpa using hu).symm.trans hw2)
    have zlt := st.lt z (List.mem_cons_self ..)
    refine ⟨_, rfl, wpAny_letOwnedTupleGo_zip (s := { s with heap := g, toks := tk }) gz fun g' gz' but => ?_⟩
    have gT' := (but.2 _ (Nat.ne_of_gt zlt)).trans gT
    have pair : ObjOk X.prog X.w (upd H s.heap.objs.size (.tup [.str ⟨#[c]⟩, y])) g' s.heap.objs.size (.tup [.str ⟨#[c]⟩, y]) := ⟨by show 2 ≤ sizeLine; decide, [.str ⟨#[c]⟩ t1, u], .cons ⟨t1, rfl⟩ (.cons ry .nil), ⟨_, gT', rfl, _, rfl⟩⟩
    have far : ∀ c' o, c' ∉ [z, TI, TO, i1, i2] → s.heap.get? c' = some o → g'.get? c' = some o := fun c' o n e => by
      obtain ⟨n1, n2, n3, n4⟩ := off5 n
      exact (but.2 c' n1).trans (rest c' o n1 n2 n3 n4 e)
    refine ⟨.ref s.heap.objs.size, _, I.turnedNew (t' := tk) (ch := [z, TI, TO, i1, i2]) far free (Nat.le_refl _) pair, rfl, ⟨_, c, y, rfl, I.hok.fresh (Nat.le_refl _), rfl, hx, fun l hl => by rw [I.tuple_inj hl seq]; exact hy⟩, ?_, fun c' m => ?_⟩
    · obtain ⟨p1, q1, r1⟩ := g1
      exact ⟨gz', (but.2 _ S.TIz).trans (rest _ _ S.TIz S.TITO S.TIi1 S.TIi2 st.its), ⟨_, _, (but.2 _ S.TOz).trans gO⟩, ⟨p1, (but.2 _ S.zi1.symm).trans q1, r1⟩, g2.1.at fun o q => (but.2 _ S.zi2.symm).trans q⟩
    · exact (upd_ne (Nat.ne_of_lt (st.lt c' m))).trans (free c' m).1
  done := by
    intro X e1 e2 e3 calm i pins s σ H E I free st over
    subst e1 e2 e3
    obtain ⟨ys, seq, len, rfl⟩ := over
    obtain ⟨us, ru, isT, _⟩ := I.tuple seq
    have quiet : X.A.in1.handled = none := I.ok.hd calm
    have size : us.toArray.size = ys.length := by rw [ru.length]; simp
    obtain ⟨v1, v2, out⟩ := st.out
    exact wpAny_pyNext_zipD2_end S (Draws.text quiet i1 x t) (Draws.tuple quiet i2 b hb us.toArray) st.zip st.its out st.txt ⟨st.tup, isT⟩ (Nat.le_of_eq len) (Nat.le_of_eq size.symm) (.inl len) fun g tk rest => ⟨rfl, I.turnedL (t' := tk) (ch := [z, TI, TO, i1, i2]) (fun c o n e => by
      obtain ⟨n1, n2, n3, n4⟩ := off5 n
      exact rest c o n1 n2 n3 n4 e) free⟩
def iZipS (K : PySem.W.Frag) (ta : TA) : TI := fun σ H R => ta σ H fun vs H1 => ∃ x b ys, vs = [.str x, .ref b] ∧ SqT K H1 b ys ∧ R (ItzS K x b) H1
theorem pi_zipS {X : Cx} {e d : Expr} {ta : TA} {p pos tpos : Pos} {elts : List Expr} {kk : Nat} (hg : Gl X "zip") (hm : X.mg "zip" = none) (ha : PA X [e, d] ta) (flat : starEach [e, d] X.env = (false, eval e X.env) :: starEach [d] X.env := by rfl)
    (plain : (backTo pos (starEach [d] X.env)).any (·.1) = false := by rfl) : PI X (.Tuple elts kk tpos) (.Call (.Name "zip" p) [e, d] [] pos) (iZipS X.K ta) where
  run := fun pins s σ H R I start => by
    refine Call_ (ld_blt I hg hm PyProof.Rows.boot_zip (PyProof.Rows.callWith_type1 (thn (ha.run pos pins s σ H _ I start) fun us s1 ⟨vs, H1, J, r, x, b, ys, ev, seq, go⟩ => ?_) flat plain))
    subst ev
    cases r with | cons q1 q2 => ?_
    cases q2 with | cons q2 q3 => ?_
    cases q3
    obtain ⟨t, rfl⟩ := q1
    cases q2
    obtain ⟨ws, _, isT, _⟩ := J.tuple seq
    have bl : b < s1.heap.objs.size := let ⟨_, ho, _⟩ := id isT; Heap.lt_size ho
    have young : ∀ j, FpOk X pins H1 (s1.heap.objs.size + j) := fun j => J.fpOk (Nat.le_add_right ..) (J.hok.fresh (Nat.le_add_right ..))
    have isT' : s1.heap.IsTuple b ws.toArray := isT
    refine zip_begins2 (begins_text x t) (begins_tuple b ws.toArray) trivial isT' fun g gz gI gO g1 g2 _ rest => wpAny_pyIter_zip gz ?_
    exact ⟨s1.heap.objs.size + 4, _, SideAt x t b (s1.heap.objs.size + 4) (s1.heap.objs.size + 2) (s1.heap.objs.size + 3) s1.heap.objs.size (s1.heap.objs.size + 1), ItzS X.K x b, H1, rfl, J.kept (t' := s1.toks) rest, turn_zipS (t := t) (zip_sep2 nofun fun c m => List.mem_singleton.mp m ▸ bl) (Nat.ne_of_lt (Nat.lt_succ_of_lt bl)), ⟨gz, gI, ⟨_, _, gO⟩, ⟨_, g1, rfl, rfl⟩, ⟨_, g2, rfl, rfl⟩⟩, five (young 4) (young 2) (young 3) (young 0) (young 1), go⟩
end KB
set_option Elab.async false
set_option linter.all false
set_option maxRecDepth 100000
set_option maxHeartbeats 4000000
namespace KB
open PySem PySem.Spec PyProof.Rows L2 Evl
local macro_rules | `(tactic| walk_at "ev") => `(tactic| repeat' (first | exact ev_c | exact ev_var rfl | exact rv_I0 | refine' rv_I ?_ | refine' rv_eq ?_ | refine' rv_ne ?_ | refine' ev_op ?_ ?_ ?_ | exact ea_nil | refine' ea_cons ?_ ?_ | refine' et_test ?_ | refine' et_B ?_ | refine' et_not ?_ | refine' ev_notV ?_))

theorem given_all {n : Nat} {v : Nat → V} : given n (fun _ => true) v = (List.range n).map v := by
  unfold given
  rw [List.filter_eq_self.mpr fun _ _ => rfl]
theorem pe_fldE {X : Cx} {K : PySem.W.Frag} {o : Expr} {f : Str} {apos : Pos} {ta : TE} (ha : PE X o ta) (hb : attributeBase o f X.env (eval o X.env) = eval o X.env) (hK : X.K = K := by rfl) : PE X (.Attribute o f apos) (tFld K ta f) := by
  subst hK
  exact pe_fld ha hb
open PySem
theorem pt_truthE {X : Cx} {K : PySem.W.Frag} {e : Expr} {ta : TE} (ha : PE X e ta) (he : ∀ whole, isTrue e X.env whole = (do let v ← whole; standAt e.pos; holding [v] (truthy v))) (hK : X.K = K := by rfl) :
    PT X e (fun σ H Q => ta σ H fun x H' => ∃ k, TruV K x H' k ∧ Q k H') := by
  subst hK
  exact pt_truth ha he
section
variable {K : PySem.W.Frag} {σ : L2.St} {H H' : Hp} {ta tb te tx tv : TE} {t u : TT} {x y z v : V} {r : R2}
theorem et_truth {i : Int} (h : Ev te σ H (.int i)) : EvT (fun σ H Q => te σ H fun x H' => ∃ k, TruV K x H' k ∧ Q k H') σ H (i != 0) := fun H1 e Q q => h H1 e _ fun H2 e2 => ⟨_, rfl, q H2 e2⟩
/-- a comprehension over a text and a tuple, side by side -/
theorem el_lcZ {s : Str} {b : Addr} {ys : List V} {ta : TA} {i1 i2 : Nat} {vs : List Nat} (v : Nat → V) (h : EvA ta σ H [.str s, .ref b]) (hb : SqT K H b ys) (hl : ys.length = s.cps.size) (hz : s.cps.size ≤ 40000)
    (hw : ∀ x y, wipe (((wipe σ vs).set i1 (some x)).set i2 (some y)) vs = wipe σ vs)
    (he : ∀ (i c : Nat) (y : V) H1, Ex H H1 → s.cps[i]? = some c → ys[i]? = some y → Ev te (((wipe σ vs).set i1 (some (.str ⟨#[c]⟩))).set i2 (some y)) H1 (v i)) :
    EvL (tLc (iZipS K ta) (gTup K 2 (gCons (gName i1) (gCons (gName i2) gNil))) tYes te vs) σ H (given s.cps.size (fun _ => true) v) := fun H0 e Q q => h H0 e _ fun H1 e1 => ⟨s, b, ys, rfl, ex_t (e.trans e1) hb, fun Dl hD =>
  ⟨fun i m H' => m = s.cps.size - i ∧ i ≤ s.cps.size ∧ Cw H1 (fun _ => true) v Dl i H', ⟨s.cps.size, by simp, Nat.zero_le _, hD, Ex.new hD, upd_same⟩, by
    rintro i m H' ⟨rfl, hi, p⟩
    have hb' : SqT K H' b ys := ex_t ((e.trans e1).trans p.2.1) hb
    by_cases hlt : i < s.cps.size
    · refine .inr ⟨⟨ys, s.cps[i], ys[i], hb', by simp [hlt], by simp [hl, hlt]⟩, Cw H1 (fun _ => true) v Dl (i + 1), fun H2 p' => ⟨s.cps.size - (i + 1), by omega, rfl, hlt, p'⟩, ?_⟩
      rintro x H2 ⟨T, c, y, rfl, hT, rfl, hc, hy⟩
      have hy' := hy ys hb'
      have e2 : Ex H' (upd H' T (.tup [.str ⟨#[c]⟩, y])) := Ex.new hT
      have p' : Cw H1 (fun _ => true) v Dl i (upd H' T (.tup [.str ⟨#[c]⟩, y])) := ⟨p.1, p.2.1.trans e2, e2 _ _ p.2.2⟩
      exact ⟨T, _, rfl, st_of upd_same, rfl, _, _, rfl, _, _, rfl, rfl, hw _ _, cw_turn p' (by omega) et_yes (fun _ => he i c y H1 (e.trans e1) hc hy')⟩
    · have e2 : i = s.cps.size := by omega
      subst e2
      exact .inl ⟨⟨ys, hb', hl, hl.symm⟩, q Dl H' (fresh_back e1 p.1) (e1.trans p.2.1) p.2.2⟩⟩⟩
end
def nineS : Str := "rwxrwxrwx"
def nineB : List Int := [256, 128, 64, 32, 16, 8, 4, 2, 1]
def signAt (n i : Nat) : Str := if (Builtin.bitAnd (n : Nat) (nineB.getD i 0) != 0) = true then ⟨#[nineS.cps.toList.getD i 0]⟩ else "-"
def shown (n : Nat) : Str := Txt.join "" ((List.range 9).map (signAt n))
def spStr (a : Ads) : Sp := fun vs H Q _ => ∃ (p : Addr) (n : Nat), vs = [.ref p] ∧ ModeAt a H p n ∧ n < 512 ∧ ∀ H', Ex H H' → Q (.str (shown n)) H'
theorem dash1 : ("-" : Str).length = 1 := by decide +kernel
theorem sign1 (n i : Nat) : (signAt n i).length = 1 := by
  unfold signAt
  split
  · rfl
  · exact dash1
theorem nine_size : nineS.cps.size = 9 := by decide +kernel
section
variable {P : Program} {w : World} {K : PySem.W.Frag} {mg : Str → Option Value} {base : Heap} {a : Ads}
theorem ok_Mode_str (T : Txt w K mg a) : FnOk P w K mg base CX0 1 a.f_ModeD_strD a.d_ModeD_strD ["self"] (spStr a) := by
  refine T.fn_ModeD_strD.ok sc_ModeD_strD (fun vs H Q E h => ?_) (fun cdv A outer s H vs Q E hr h => ?_)
  · obtain ⟨_, _, rfl, _⟩ := h
    rfl
  · obtain ⟨p, n, rfl, ⟨dx, hp⟩, hn, k⟩ := h
    refine ⟨_, (pss_one (ps_ret (pe_join pe_str (pe_lc (own := [("sign", 1), ("bit", 2)]) (g := gTup K 2 (gCons (gName 1) (gCons (gName 2) gNil))) rfl sc_ModeD_strD.nd (pi_zipS (by rfl) T.b_zip (pa_cons (pe_glob (v := .str "rwxrwxrwx") rfl T.mg_NINE_SIGNS.choose_spec ⟨_, rfl⟩) (pa_cons (pe_glob (v := .ref a.k_NINE_BITS) rfl T.mg_NINE_BITS rfl) pa_nil))) (blkOk_by (own := [("sign", 1), ("bit", 2)]) (N := n_ModeD_strD) (sc := defScope s_ModeD_strD) (by decide +kernel)) (fun _ _ _ _ _ => (pg_tup rfl (pgs_cons (pg_name (i := 1) sc_ModeD_strD.nd rfl (Or.inl rfl)) (pgs_cons (pg_name (i := 2) sc_ModeD_strD.nd rfl (Or.inl rfl)) pgs_nil)))) (fun _ _ _ _ _ => pts_nil) (fun _ _ _ _ _ => (pe_ifExp (pt_truthE (K := K) (pe_op op_and (pe_fldE (K := K) (pv 0) rfl) (pv 2)) (by intro _; rfl)) (pv 1) pe_str)))))), ?_⟩
    refine s_ret (v := .str (shown n)) (ev_join (ys := (List.range 9).map (signAt n)) ev_c (el_is (el_lcZ (K := K) (s := nineS) (b := a.k_NINE_BITS) (ys := nineB.map V.int) (fun i => V.str (signAt n i)) (ea_cons ev_c (ea_cons ev_c ea_nil)) (T.t_NINE_BITS H) (by decide +kernel) (by decide +kernel) (fun _ _ => rfl) (fun i c y H1 e hc hy => ?_)) ?_) ?_) fun H1 e1 => k H1 e1
    · rw [← Array.getElem?_toList] at hc
      rw [List.getElem?_map] at hy
      obtain ⟨b, hb, rfl⟩ := Option.map_eq_some_iff.mp hy
      refine ev_if (b := (Builtin.bitAnd (n : Nat) b != 0)) (et_truth (ev_op (ev_fld (ev_var rfl) (e _ _ hp) T.c_Mode T.n_number_Mode (by simp [List.lookup])) (ev_var rfl) rv_I0)) (fun h => ev_is (ev_var rfl) ?_) (fun h => ev_is ev_c ?_)
      · unfold signAt
        rw [show nineB.getD i 0 = b by simp [List.getD, hb], if_pos h, show nineS.cps.toList.getD i 0 = c by simp [List.getD, hc]]
      · unfold signAt
        rw [show nineB.getD i 0 = b by simp [List.getD, hb], if_neg (by rw [h]; decide)]
    · rw [given_all, nine_size, List.map_map]
      rfl
    · have : ∀ l : List Nat, ((l.map (signAt n)).map (·.length)).sum = l.length := by
        intro l
        induction l with
        | nil => rfl
        | cons x l ih => simp only [List.map_cons, List.sum_cons, List.length_cons, ih, sign1]; omega
      rw [this, List.length_map, List.length_range, show ("" : Str).length = 0 from rfl]
      decide
end
/-! str of an own instance -/
section
variable {X : Cx} {CX : CXT} {C g : Addr} {n : Nat} {sp : Sp} {E : XK} {fd : FuncData} {ps : List Str}
def rStrOwn (C : Addr) (sp : Sp) (E : XK) : List V → Hp → VK → Prop := fun xs H Q => ∃ a dx fs, xs = [V.ref a] ∧ H a = some (.ins C dx fs) ∧ sp [.ref a] H (fun z H' => ∃ s, z = .str s ∧ Q z H') E
theorem call_strOwn (hs : PySem.W.findIn X.K (.ref C) "__str__" = some (some (.ref g))) (hf : PySem.W.isFn X.K (.ref g) = true) (F : FnR X.prog X.w X.K X.mg X.base CX n g sp) (hr : Room (n + 2) X.A) (hx : Passes CX X E) : CallR X (.type "str") (rStrOwn C sp E) := by
  intro pins s σ H xs us Q I r start
  obtain ⟨a, dx, fs, rfl, hsl, q⟩ := start
  obtain ⟨u, rfl, ru⟩ := r.one
  obtain rfl : u = Value.ref a := ru
  obtain ⟨ox, od, J, _⟩ := StX.insC_at (X := X) I (.inr ⟨dx, fs, hsl⟩)
  have low : Room (n + 1) X.A.in1 := Room.in1 hr
  have hr2 : Room n X.A.in1.in1 := low.in1
  refine PySem.W.kso_call hr2.units0 I.kIn J hs hf (wpAny_mono (wpAny_call (SlX.run_at (us := [.ref a]) (ws := [.ref a]) F hr2 I.env0.in1.in1 hx I (.cons rfl .nil) q)) (fun w s' z => ?_) fun _ _ x => x)
  obtain ⟨z', H', I', rz, s2, ei, qz⟩ := z
  subst ei
  obtain ⟨t, e⟩ := (show ∃ t, w = Value.str s2 t from rz)
  cases e
  exact ⟨.str s2, H', I', ⟨t, rfl⟩, qz⟩
end
end KB
set_option Elab.async false
set_option linter.all false
set_option maxRecDepth 100000
set_option maxHeartbeats 4000000
namespace KB
open PySem PySem.Spec PyProof.Rows L2 Evl
local macro_rules | `(tactic| walk_at "ev") => `(tactic| repeat' (first | exact ev_c | exact ev_var rfl | exact rv_I0 | refine' rv_I ?_ | refine' rv_eq ?_ | refine' rv_ne ?_ | refine' ev_op ?_ ?_ ?_ | exact ea_nil | refine' ea_cons ?_ ?_ | refine' et_test ?_ | refine' et_B ?_ | refine' et_not ?_ | refine' ev_notV ?_))

open PySem
/-! ### BadText is raised -/
def txD (l w : Int) : List (Str × V) := [(("word" : Str), .int w), (("line" : Str), .int l)]
def spBadI (a : Ads) : Sp := fun vs H Q _ => ∃ (e : Addr) (l w : Int), vs = [.ref e, .int l, .int w] ∧ H e = some (exo e a.x_BadText none) ∧ ∀ dx H', H dx = none → dx ≠ e → H' e = some (exo e a.x_BadText (some dx)) → H' dx = some (exd dx (txD l w)) → (∀ b, b ≠ e → b ≠ dx → H' b = H b) → Q .non H'
/-- an error's dict, new: its line and its word -/
def Told (a : Ads) (E : XK) (H : Hp) (l w : Int) : Prop := ∀ d H', H d = none → Ex H H' → H' d = some (.xd (txD l w)) → E (.ref a.x_BadText) (some d) H'
theorem Told.back {a : Ads} {E : XK} {H H1 : Hp} {l w : Int} (h : Told a E H l w) (e : Ex H H1) : Told a E H1 l w := fun d H' hd e' h' => h d H' (fresh_back e hd) (e.trans e') h'
theorem raise_told {a : Ads} {E : XK} {H : Hp} {l w : Int} (h : Told a E H l w) : ∀ e, H e = none → spBadI a (.ref e :: ([.int l, .int w] ++ [])) (upd H e (exo e a.x_BadText none)) (fun v H2 => v = .non ∧ ∃ (d : Addr) (fs : List (Str × V)), H2 e = some (exo e a.x_BadText (some d)) ∧ H2 d = some (exd d fs) ∧ H d = none ∧ E (.ref a.x_BadText) (some d) (upd (del H2 e) d (.xd fs))) (fun _ _ _ => False) := fun e he =>
  ⟨e, l, w, rfl, upd_same, fun dx H' hdx ne h1 h2 h3 => by
    have hd : H dx = none := by rw [upd_ne ne] at hdx; exact hdx
    refine ⟨rfl, dx, txD l w, h1, h2, hd, h dx _ hd (fun b o hb => ?_) upd_same⟩
    have be := ne_of_none hb he
    have bd := ne_of_none hb hd
    rw [upd_ne bd, del_ne be, h3 b be bd, upd_ne be]
    exact hb⟩
section
variable {P : Program} {w : World} {K : PySem.W.Frag} {mg : Str → Option Value} {base : Heap} {a : Ads}
theorem ok_BadText_init (T : Txt w K mg a) : FnOk P w K mg base CX0 1 a.f_BadTextD_initD a.d_BadTextD_initD ["self", "line", "word"] (spBadI a) := by
  refine T.fn_BadTextD_initD.ok sc_BadTextD_initD (fun vs H Q E h => ?_) (fun cdv A outer s H vs Q E hr h => ?_)
  · obtain ⟨_, _, _, rfl, _⟩ := h
    rfl
  · obtain ⟨e, l, w, rfl, he, k⟩ := h
    refine ⟨_, (pss_cons (ps_ost (pv 0) (pv 1))
    (pss_one (ps_ost (pv 0) (pv 2)))), ?_⟩
    refine ⟨.int l, rfl, .ref e, rfl, e, a.x_BadText, rfl, T.ox_BadText, T.nl_BadText, .inl ⟨he, fun dx hdx ne => ?_⟩⟩
    refine ⟨.int w, rfl, .ref e, rfl, e, a.x_BadText, rfl, T.ox_BadText, T.nw_BadText, .inr ⟨dx, [(("line" : Str), .int l)], upd_same, by rw [upd_ne ne, upd_same], by show 1 ≤ 900; decide, ?_⟩⟩
    exact k dx _ hdx ne (by rw [upd_ne (Ne.symm ne), upd_same]) upd_same fun b h1 h2 => by rw [upd_ne h2, upd_ne h1, upd_ne h2]
end
end KB
set_option Elab.async false
set_option linter.all false
set_option maxRecDepth 100000
set_option maxHeartbeats 4000000
namespace KB
open PySem PySem.Spec PyProof.Rows L2 Evl
local macro_rules | `(tactic| walk_at "ev") => `(tactic| repeat' (first | exact ev_c | exact ev_var rfl | exact rv_I0 | refine' rv_I ?_ | refine' rv_eq ?_ | refine' rv_ne ?_ | refine' ev_op ?_ ?_ ?_ | exact ea_nil | refine' ea_cons ?_ ?_ | refine' et_test ?_ | refine' et_B ?_ | refine' et_not ?_ | refine' ev_notV ?_))

open PySem
/-! ### texts of modes -/
def letC (k : Nat) : Nat := nineS.cps.toList.getD k 0
def okC (cs : List Nat) (k : Nat) : Bool := match cs[k]? with
  | some c => c == letC k || c == 45
  | none => false
def firstBad (cs : List Nat) : Option Nat := (List.range 9).find? fun k => !okC cs k
def bitC (cs : List Nat) (k : Nat) : Nat := if cs.getD k 45 = 45 then 0 else 1
def valN (cs : List Nat) : Nat → Nat
  | 0 => 0
  | j + 1 => 2 * valN cs j + bitC cs j
def dueS (s : Str) : Nat ⊕ Nat := match firstBad s.cps.toList with
  | some k => .inr k
  | none => if 9 < s.cps.size then .inr 9 else .inl (valN s.cps.toList 9)
theorem bad_some {cs : List Nat} {j : Nat} (hj : j < 9) (ok : ∀ k, k < j → okC cs k = true) (bad : okC cs j = false) : firstBad cs = some j := by
  unfold firstBad
  rw [List.find?_eq_some_iff_append]
  refine ⟨by rw [bad]; rfl, List.range j, (List.range (9 - j - 1)).map (fun i => j + 1 + i), ?_, fun x hx => ?_⟩
  · have h9 : 9 = j + (1 + (9 - j - 1)) := by omega
    conv => lhs; rw [h9, List.range_add, List.range_add, List.map_append, List.map_map]
    congr 1
    show [j + 0] ++ _ = [j] ++ _
    rw [Nat.add_zero]
    congr 1
    apply List.map_congr_left
    intro i _
    show j + (1 + i) = j + 1 + i
    omega
  · rw [ok x (List.mem_range.mp hx)]
    rfl
theorem bad_none {cs : List Nat} (ok : ∀ k, k < 9 → okC cs k = true) : firstBad cs = none := by
  unfold firstBad
  rw [List.find?_eq_none]
  intro x hx
  rw [ok x (List.mem_range.mp hx)]
  decide
theorem ok_len {cs : List Nat} {k : Nat} (h : okC cs k = true) : k < cs.length := by
  unfold okC at h
  split at h
  · rename_i c hc
    exact (List.getElem?_eq_some_iff.mp hc).1
  · cases h
theorem val_lt (cs : List Nat) : ∀ j, valN cs j < 2 ^ j
  | 0 => by show 0 < 1; decide
  | j + 1 => by
    have h := val_lt cs j
    have b : bitC cs j ≤ 1 := by unfold bitC; split <;> decide
    show 2 * valN cs j + bitC cs j < 2 ^ (j + 1)
    rw [Nat.pow_succ]
    omega
theorem val_cut (cs : List Nat) (j : Nat) : ∀ m, valN cs (j + m) / 2 ^ m = valN cs j
  | 0 => by rw [Nat.add_zero, Nat.pow_zero, Nat.div_one]
  | m + 1 => by
    have b : bitC cs (j + m) ≤ 1 := by unfold bitC; split <;> decide
    show (2 * valN cs (j + m) + bitC cs (j + m)) / 2 ^ (m + 1) = _
    rw [Nat.pow_succ, Nat.mul_comm (2 ^ m) 2, ← Nat.div_div_eq_div_mul, show (2 * valN cs (j + m) + bitC cs (j + m)) / 2 = valN cs (j + m) by omega]
    exact val_cut cs j m
theorem val_bit (cs : List Nat) (k : Nat) (hk : k < 9) : valN cs 9 / 2 ^ (8 - k) % 2 = bitC cs k := by
  have h := val_cut cs (k + 1) (8 - k)
  rw [show k + 1 + (8 - k) = 9 by omega] at h
  rw [h]
  have b : bitC cs k ≤ 1 := by unfold bitC; split <;> decide
  show (2 * valN cs k + bitC cs k) % 2 = _
  omega
def nineN : List Nat := [256, 128, 64, 32, 16, 8, 4, 2, 1]
theorem sign_law : ∀ n : Nat, n < 512 → ∀ k : Nat, k < 9 → signAt n k = ⟨#[if n / 2 ^ (8 - k) % 2 = 0 then 45 else letC k]⟩ := by
  have h : ((List.range 512).all fun (n : Nat) => (List.range 9).all fun (k : Nat) => decide (signAt n k = ⟨#[if n / 2 ^ (8 - k) % 2 = 0 then 45 else letC k]⟩)) = true := by decide +kernel
  exact fun n hn k hk => of_decide_eq_true (all_nat (all_nat h n hn) k hk)
theorem or_law : ∀ j : Nat, j < 9 → ∀ v : Nat, v < 2 ^ j → Builtin.bitOr ((v * 2 ^ (9 - j) : Nat) : Int) (nineB.getD j 0) = ((2 * v + 1) * 2 ^ (8 - j) : Nat) := by
  have h : ((List.range 9).all fun (j : Nat) => (List.range (2 ^ j)).all fun (v : Nat) => decide (Builtin.bitOr ((v * 2 ^ (9 - j) : Nat) : Int) (nineB.getD j 0) = ((2 * v + 1) * 2 ^ (8 - j) : Nat))) = true := by decide +kernel
  exact fun j hj v hv => of_decide_eq_true (all_nat (all_nat h j hj) v hv)
theorem joinL_nil : ∀ ys : List (List Nat), TL.joinL [] ys = ys.flatten
  | [] => rfl
  | [x] => by simp [TL.joinL]
  | x :: y :: r => by
    have h := joinL_nil (y :: r)
    simp [TL.joinL] at h ⊢
    rw [h]
theorem ones_flat : ∀ cs : List Nat, (cs.map fun c => [c]).flatten = cs
  | [] => rfl
  | c :: cs => by
    rw [List.map_cons, List.flatten_cons, ones_flat cs]
    rfl
theorem join_ones (cs : List Nat) : Txt.join "" (cs.map fun c => (⟨#[c]⟩ : Str)) = ⟨cs.toArray⟩ := by
  have h := SX.join_S [] (cs.map fun c => [c])
  rw [List.map_map, joinL_nil, ones_flat] at h
  exact h
theorem due_inl {s : Str} {n : Nat} (h : dueS s = .inl n) : (∀ k, k < 9 → okC s.cps.toList k = true) ∧ s.cps.size = 9 ∧ n = valN s.cps.toList 9 := by
  unfold dueS at h
  cases hb : firstBad s.cps.toList with
  | some k => rw [hb] at h; cases h
  | none =>
    rw [hb] at h
    have ok : ∀ k, k < 9 → okC s.cps.toList k = true := fun k hk => by
      have := List.find?_eq_none.mp hb k (List.mem_range.mpr hk)
      simpa using this
    have l := ok_len (ok 8 (by decide))
    rw [Array.length_toList] at l
    have h : (if 9 < s.cps.size then (Sum.inr 9 : Nat ⊕ Nat) else .inl (valN s.cps.toList 9)) = .inl n := h
    by_cases h9 : 9 < s.cps.size
    · rw [if_pos h9] at h
      cases h
    · rw [if_neg h9] at h
      injection h with h
      exact ⟨ok, by omega, h.symm⟩
/-- a text that is told as n is what is shown of n -/
theorem shown_of {s : Str} {n : Nat} (h : dueS s = .inl n) : n < 512 ∧ shown n = s := by
  obtain ⟨ok, l, rfl⟩ := due_inl h
  have hn := val_lt s.cps.toList 9
  refine ⟨hn, ?_⟩
  have e : (List.range 9).map (signAt (valN s.cps.toList 9)) = s.cps.toList.map fun c => (⟨#[c]⟩ : Str) := by
    apply List.ext_getElem
    · simp [l]
    · intro k h1 h2
      have hk : k < 9 := by simpa using h1
      rw [List.getElem_map, List.getElem_range, List.getElem_map, sign_law _ hn k hk, val_bit _ k hk]
      have o := ok k hk
      have hl : k < s.cps.toList.length := by rw [Array.length_toList]; omega
      unfold okC at o
      rw [List.getElem?_eq_getElem hl] at o
      have gd : s.cps.toList.getD k 45 = s.cps.toList[k] := by rw [List.getD_eq_getElem?_getD, List.getElem?_eq_getElem hl]; rfl
      congr 2
      unfold bitC
      rw [gd]
      by_cases h45 : s.cps.toList[k] = 45
      · rw [if_pos h45, if_pos rfl, h45]
      · rw [if_neg h45, if_neg (by decide)]
        have o2 : (s.cps.toList[k] == letC k || s.cps.toList[k] == 45) = true := o
        rcases Bool.or_eq_true_iff.mp o2 with q | q
        · exact congrArg (fun x => [x]) (beq_iff_eq.mp q).symm
        · exact absurd (beq_iff_eq.mp q) h45
  unfold shown
  rw [e, join_ones]
theorem cut9_is (s : Str) : (cutS s none (some 9)).cps.toList = s.cps.toList.take 9 := by
  have h : HT.sIx s.length s.length (some 9) = min 9 s.length := by
    unfold HT.sIx
    simp
    try omega
  unfold cutS
  rw [h]
  show List.take (min 9 s.length - HT.sIx s.length 0 none) (s.cps.toList.drop (HT.sIx s.length 0 none)) = _
  have h0 : HT.sIx s.length 0 none = 0 := rfl
  rw [h0, List.drop_zero, Nat.sub_zero]
  have hl : s.cps.toList.length = s.length := by rw [Array.length_toList]; rfl
  rcases Nat.le_total 9 s.length with q | q
  · rw [Nat.min_eq_left q]
  · rw [Nat.min_eq_right q, ← hl, List.take_length, List.take_of_length_le (by rw [hl]; exact q)]
theorem cut9 {s : Str} {k c : Nat} (h : (cutS s none (some 9)).cps.toList[k]? = some c) : k < 9 ∧ s.cps.toList[k]? = some c := by
  rw [cut9_is] at h
  have hk : k < 9 := by
    have := (List.getElem?_eq_some_iff.mp h).1
    rw [List.length_take] at this
    omega
  rw [List.getElem?_take_of_lt hk] at h
  exact ⟨hk, h⟩
theorem cut9_size (s : Str) : (cutS s none (some 9)).cps.size = min 9 s.cps.size := by
  rw [← Array.length_toList, cut9_is, List.length_take, Array.length_toList]
theorem letC_ne : ∀ k : Nat, k < 9 → letC k ≠ 45 ∧ atI nineS.cps.toList ((k : Nat) : Int) = some (letC k) ∧ (nineB.map V.int)[k]? = some (.int (nineB.getD k 0)) := by
  intro k hk
  have h : ((List.range 9).all fun (k : Nat) => decide (letC k ≠ 45 ∧ atI nineS.cps.toList ((k : Nat) : Int) = some (letC k))) = true := by decide +kernel
  have h2 := of_decide_eq_true (all_nat h k hk)
  refine ⟨h2.1, h2.2, ?_⟩
  have hl : k < nineB.length := hk
  rw [List.getElem?_map, List.getElem?_eq_getElem hl]
  show some (V.int nineB[k]) = _
  rw [List.getD_eq_getElem?_getD, List.getElem?_eq_getElem hl]
  rfl
theorem ev_lenStr {σ : L2.St} {H : Hp} {te : TE} {s : Str} (h : Ev te σ H (.str s)) (hz : s.length ≤ 100000) : Ev (tCB (fun xs H Q => ∃ z, xs = [V.str z] ∧ z.length ≤ sizeLine ∧ Q (.int (z.length : Nat)) H) (tCons te tNil)) σ H (.int (s.cps.size : Nat)) := fun H1 e Q q =>
  h H1 e _ fun H2 e2 => ⟨s, rfl, sz_of hz, q H2 e2⟩
theorem str1 (c d : Nat) : decide (V.str ⟨#[c]⟩ = V.str ⟨#[d]⟩) = decide (c = d) := by
  by_cases h : c = d
  · rw [h, decide_eq_true rfl, decide_eq_true rfl]
  · rw [decide_eq_false h, decide_eq_false fun z => by
      injection z with z
      injection z with z
      injection z with z
      injection z with z
      exact h z]
theorem dash_is : ("-" : Str) = ⟨#[45]⟩ := by decide +kernel
def TyE (K : PySem.W.Frag) (H : Hp) (x : V) (t : String) : Prop := ∀ H', Ex H H' → TyX K H' x (.type t)
def spMRead (K : PySem.W.Frag) (a : Ads) : Sp := fun vs H Q E => ∃ x : V, vs = [.ref a.f_Mode, x] ∧ ((∃ s : Str, x = .str s ∧ s.length ≤ 900 ∧ (∀ n, dueS s = .inl n → ∀ p H', H p = none → Ex H H' → ModeAt a H' p n → Q (.ref p) H') ∧ (∀ k : Nat, dueS s = .inr k → Told a E H 0 k)) ∨ (∃ t, TyE K H x t ∧ kitB t "str" = some false ∧ Told a E H 0 0))
section
variable {P : Program} {w : World} {K : PySem.W.Frag} {mg : Str → Option Value} {base : Heap} {a : Ads}
theorem ok_Mode_read (T : Txt w K mg a) : FnOk P w K mg base (L2.CX P w) 7 a.f_Mode_read a.d_Mode_read ["cls", "text"] (spMRead K a) := by
  have G_Mode_init : FnOk P w K mg base CX0 5 _ _ _ _ := ok_Mode_init T
  have G_BadText_init : FnOk P w K mg base CX0 5 _ _ _ _ := (ok_BadText_init T).mono (by decide)
  refine T.fn_Mode_read.okX sc_Mode_read (fun vs H Q E h => ?_) (fun cdv A outer s H vs Q E hr h => ?_)
  · obtain ⟨_, rfl, _⟩ := h
    rfl
  · obtain ⟨x, rfl, h⟩ := h
    have hrm : Room (5 + 1) _ := hr
    have hrm5 : Room (5 + 1) _ := hr
    refine ⟨_, (pss_cons (ps_if (pt_not (pt_val (pe_callB call_isi (by rfl) T.b_isinstance PyProof.Rows.boot_isinstance (pa_cons (pv 1) (pa_cons (pe_bltn (v := .ty "str") (by rfl) T.b_str (by decide +kernel) rfl) pa_nil))))) (pss_one (ps_raise rfl (takes_of rfl rfl rfl rfl) (pmk_oex T.ox_BadText T.ic_BadText T.it_BadText G_BadText_init hrm5 (bd_BadTextD_initD T) .nil pass0 rfl T.mg_BadText (pa_cons pe_int (pa_cons pe_int pa_nil))))) pss_nil)
    (pss_cons (ps_set (i := 2) sc_Mode_read.nd rfl (Or.inl rfl) pe_int)
    (pss_cons (ps_for (passes_of rfl) rfl (pi_enS (by rfl) T.b_enumerate (pe_slice sl_str (pv 1) po_none (po_some pe_int))) (pg_tup rfl (pgs_cons (pg_name (i := 3) sc_Mode_read.nd rfl (Or.inl rfl)) (pgs_cons (pg_name (i := 4) sc_Mode_read.nd rfl (Or.inl rfl)) pgs_nil))) (pss_one (ps_if (pt_cmpR op_eq (pv 4) (pe_ix ix_str (pe_glob (v := .str "rwxrwxrwx") rfl T.mg_NINE_SIGNS.choose_spec ⟨_, rfl⟩) (pv 3) (fun _ _ => rfl)) (nomark _)) (pss_one (ps_set (i := 2) sc_Mode_read.nd rfl (Or.inl rfl) (pe_op op_or (pv 2) (pe_ix ix_tup (pe_glob (v := .ref a.k_NINE_BITS) rfl T.mg_NINE_BITS rfl) (pv 3) (fun _ _ => rfl))))) (pss_one (ps_if (pt_cmpR op_ne (pv 4) pe_str (nomark _)) (pss_one (ps_raise rfl (takes_of rfl rfl rfl rfl) (pmk_oex T.ox_BadText T.ic_BadText T.it_BadText G_BadText_init hrm5 (bd_BadTextD_initD T) .nil pass0 rfl T.mg_BadText (pa_cons pe_int (pa_cons (pv 3) pa_nil))))) pss_nil)))))
    (pss_cons (ps_if (pt_cmpR op_ne (pe_callB call_len_str (by rfl) T.b_len PySem.boot_len (pa_cons (pv 1) pa_nil)) pe_int (nomark _)) (pss_one (ps_raise rfl (takes_of rfl rfl rfl rfl) (pmk_oex T.ox_BadText T.ic_BadText T.it_BadText G_BadText_init hrm5 (bd_BadTextD_initD T) .nil pass0 rfl T.mg_BadText (pa_cons pe_int (pa_cons (pe_callB (call_min2 rfl) (by rfl) T.b_min (by decide +kernel) (pa_cons (pe_callB call_len_str (by rfl) T.b_len PySem.boot_len (pa_cons (pv 1) pa_nil)) (pa_cons pe_int pa_nil))) pa_nil))))) pss_nil)
    (pss_one (ps_ret (pe_makeV (i := 0) T.mk_Mode (G_Mode_init.raw (bd_ModeD_initD T) .nil) hrm pass0 rfl (Or.inl rfl) (pa_cons (pv 2) pa_nil)))))))), ?_⟩
    rcases h with ⟨s0, rfl, hl, ky, kn⟩ | ⟨t, ty, kb, told⟩
    · have hsz : s0.cps.size ≤ 900 := hl
      refine q_when (b := false) (et_not (a := true) (et_B (ev_isi (ea_cons (ev_var rfl) (ea_cons ev_c ea_nil)) (.ty _) (fun _ _ => .base (.str _)) (kit_ty (by decide +kernel))))) (fun z => nomatch z) fun _ H1 e1 => ?_
      refine q_asg (v := .int 0) ev_c fun H2 e2 => ?_
      refine q_forEnS (K := K) (ev_slS (ev_var rfl) eo_none (eo_some ev_c) (by omega)) (fun j σ' H' => ∃ o3 o4, σ' = [some (.ref a.f_Mode), some (.str s0), some (.int (valN s0.cps.toList j * 2 ^ (9 - j) : Nat)), o3, o4] ∧ Ex H H' ∧ ∀ k, k < j → okC s0.cps.toList k = true) (fun H3 e3 => ⟨_, _, rfl, (e1.trans e2).trans e3, fun k hk => absurd hk (Nat.not_lt_zero k)⟩) (fun j c σ' H' hc q H3 e3 => ?_) (fun σ' H' q => ?_)
      · obtain ⟨o3, o4, rfl, e, ok⟩ := q
        obtain ⟨hj, hc⟩ := cut9 hc
        obtain ⟨l1, l2, l3⟩ := letC_ne j hj
        have cd : s0.cps.toList.getD j 45 = c := by rw [List.getD_eq_getElem?_getD, hc]; rfl
        have okj : okC s0.cps.toList j = (c == letC j || c == 45) := by unfold okC; rw [hc]
        refine s_if (b := decide (c = letC j)) (et_is (et_test (ev_op (ev_var rfl) (ev_op ev_c (ev_var rfl) (rv_ixS (by show 9 ≤ 100000; decide) l2)) (rv_eq rfl))) (str1 _ _)) (fun hb H4 e4 => ?_) (fun hb H4 e4 => ?_)
        · have hb := of_decide_eq_true hb
          have b1 : bitC s0.cps.toList j = 1 := by unfold bitC; rw [cd, if_neg (by rw [hb]; exact l1)]
          refine s_asg (v := .int (valN s0.cps.toList (j + 1) * 2 ^ (9 - (j + 1)) : Nat)) (ev_is (ev_op (ev_var rfl) (ev_op ev_c (ev_var rfl) (rv_ixT (K := K) (T.t_NINE_BITS _) (atI_nat l3))) rv_I0) (congrArg V.int ?_)) fun H5 e5 => ⟨_, _, rfl, ((e.trans e3).trans e4).trans e5, fun k hk => ?_⟩
          · show Builtin.bitOr _ _ = _
            rw [or_law j hj _ (val_lt _ j), show valN s0.cps.toList (j + 1) = 2 * valN s0.cps.toList j + bitC s0.cps.toList j from rfl, b1, show 9 - (j + 1) = 8 - j by omega]
          · rcases Nat.lt_or_ge k j with lt | ge
            · exact ok k lt
            · obtain rfl : k = j := by omega
              rw [okj, hb]
              simp
        · have hb := of_decide_eq_false hb
          refine s_when (b := !decide (c = 45)) (et_is (et_test (ev_op (ev_var rfl) ev_c (rv_ne rfl))) (by rw [dash_is, str1])) (fun h45 H5 e5 => ?_) (fun h45 H5 e5 => ?_)
          · have h45 : c ≠ 45 := by simpa using h45
            have bad : okC s0.cps.toList j = false := by rw [okj]; simp [hb, h45]
            have due : dueS s0 = .inr j := by unfold dueS; rw [bad_some hj ok bad]
            exact ⟨_, rfl, by show 2 ≤ 1000; decide, raise_told ((kn j due).back (((e.trans e3).trans e4).trans e5))⟩
          · have h45 : c = 45 := by simpa using h45
            have b0 : bitC s0.cps.toList j = 0 := by unfold bitC; rw [cd, if_pos h45]
            have eq : valN s0.cps.toList (j + 1) * 2 ^ (9 - (j + 1)) = valN s0.cps.toList j * 2 ^ (9 - j) := by
              rw [show valN s0.cps.toList (j + 1) = 2 * valN s0.cps.toList j + bitC s0.cps.toList j from rfl, b0, show 9 - j = (9 - (j + 1)) + 1 by omega, Nat.pow_succ, Nat.add_zero]
              rw [Nat.mul_comm 2, Nat.mul_assoc, Nat.mul_comm 2]
            refine ⟨_, _, by rw [eq]; rfl, ((e.trans e3).trans e4).trans e5, fun k hk => ?_⟩
            rcases Nat.lt_or_ge k j with lt | ge
            · exact ok k lt
            · obtain rfl : k = j := by omega
              rw [okj, h45]
              simp
      · obtain ⟨o3, o4, rfl, e, ok⟩ := q
        rw [cut9_size] at ok ⊢
        refine q_when (b := !decide (s0.cps.size = 9)) (et_is (et_test (ev_op (ev_lenStr (ev_var rfl) (by omega)) ev_c (rv_ne rfl))) ?eqn) (fun hb H4 e4 => ?_) (fun hb H4 e4 => ?_)
        case eqn =>
          congr 1
          exact decide_eq_decide.mpr ⟨fun z => by injection z with z; omega, fun z => by rw [z]; rfl⟩
        · have hb : s0.cps.size ≠ 9 := by simpa using hb
          have due : dueS s0 = .inr (min s0.cps.size 9) := by
            unfold dueS
            rcases Nat.lt_or_ge s0.cps.size 9 with lt | ge
            · rw [bad_some (j := s0.cps.size) lt (fun k hk => ok k (by omega)) (by unfold okC; rw [List.getElem?_eq_none (by rw [Array.length_toList]; exact Nat.le_refl _)])]
              show Sum.inr _ = _
              congr 1
              omega
            · rw [bad_none fun k hk => ok k (by omega)]
              show (if 9 < s0.cps.size then _ else _) = _
              rw [if_pos (by omega)]
              congr 1
              omega
          have told := (kn _ due).back (e.trans e4)
          have mn : (if (9 : Int) < (s0.cps.size : Nat) then (9 : Int) else (s0.cps.size : Nat)) = (min s0.cps.size 9 : Nat) := by split <;> omega
          refine ⟨_, rfl, s0, rfl, sz_of (by omega), s0.cps.size, 9, rfl, ?_⟩
          rw [mn]
          exact ⟨by show 2 ≤ 1000; decide, raise_told told⟩
        · have hb : s0.cps.size = 9 := by simpa using hb
          have m9 : min 9 s0.cps.size = 9 := by omega
          have due : dueS s0 = .inl (valN s0.cps.toList 9) := by
            unfold dueS
            rw [bad_none fun k hk => ok k (by omega)]
            show (if 9 < s0.cps.size then _ else _) = _
            rw [if_neg (by omega)]
          rw [m9]
          have hn := val_lt s0.cps.toList 9
          refine ⟨rfl, .int (valN s0.cps.toList 9 * 2 ^ (9 - 9) : Nat), rfl, fun x dx hx hdx hne => ⟨x, dx, valN s0.cps.toList 9, by rw [Nat.sub_self, Nat.pow_zero, Nat.mul_one]; rfl, hn, upd_same, fun H5 k5 h5 => ⟨rfl, ky _ due x H5 (fresh_back (e.trans e4) hx) ((e.trans e4).trans fun b o hb => ?_) ⟨dx, h5⟩⟩⟩⟩
          have bx := ne_of_none hb hx
          have bdx := ne_of_none hb hdx
          exact k5 b o (by rw [upd_ne bx, upd_ne bdx]; exact hb) bx
    · refine q_when (b := true) (et_is (et_not (a := false) (et_B (ev_isi (ea_cons (ev_var rfl) (ea_cons ev_c ea_nil)) (.ty _) ty (kit_ty kb)))) rfl) (fun _ H1 e1 => ?_) (fun z => nomatch z)
      exact ⟨by show 2 ≤ 1000; decide, raise_told (told.back e1)⟩
end
end KB
set_option Elab.async false
set_option linter.all false
set_option maxRecDepth 100000
set_option maxHeartbeats 4000000
namespace KB
open PySem PySem.Spec PyProof.Rows L2 Evl
local macro_rules | `(tactic| walk_at "ev") => `(tactic| repeat' (first | exact ev_c | exact ev_var rfl | exact rv_I0 | refine' rv_I ?_ | refine' rv_eq ?_ | refine' rv_ne ?_ | refine' ev_op ?_ ?_ ?_ | exact ea_nil | refine' ea_cons ?_ ?_ | refine' et_test ?_ | refine' et_B ?_ | refine' et_not ?_ | refine' ev_notV ?_))

open PySem
/-! ### the caught error: isinstance, its field -/
def rIsD (K : PySem.W.Frag) (D a : Addr) (cls : Value) (d : Option Addr) : List V → Hp → VK → Prop := fun xs H Q => ∃ (c : V) (cv : Value) (b : Bool) (dd : Addr) (fs : List (Str × V)), xs = [.ref a, c] ∧ (∀ u, RelV c u → u = cv) ∧ cls = .ref D ∧ d = some dd ∧ H dd = some (.xd fs) ∧ PySem.W.kitOne K (.ref D) cv = some b ∧ Q (.bl b) H
def tXd (D a : Addr) (cls : Value) (d : Option Addr) (f : Str) (te : TE) : TE := fun σ H Q => te σ H fun x H1 => x = .ref a ∧ cls = .ref D ∧ ∃ (dd : Addr) (fs : List (Str × V)) (v : V), d = some dd ∧ H1 dd = some (.xd fs) ∧ fs.lookup f = some v ∧ Q v H1
section
variable {X : Cx} {a D dd : Addr} {oe : Obj} {cls : Value} {d : Option Addr} {pn pins : List (Addr × Obj)} {σ : L2.St} {H : Hp} {s : Shared} {e : Expr} {te : TE} {pos : Pos} {fs : List (Str × V)}
theorem inst_xd (I : Inv (X.suite a ((a, oe) :: pn)) pins σ H s) (hz : Zc (.ref D) (some dd) oe) (hf : ∃ vs, oe.data = .fields vs) (hd : H dd = some (.xd fs)) : ∃ od, PySem.W.InstAt s.heap a oe D (some od) ∧ s.heap.get? dd = some od := by
  obtain ⟨hget, _⟩ := I.pin (a, oe) (List.mem_append_left _ List.mem_cons_self)
  obtain ⟨vs, hv⟩ := hf
  have hx : ObjOk X.prog X.w H s.heap dd (.xd fs) := I.hok dd _ hd
  obtain ⟨mA, hns, _⟩ := hx
  obtain ⟨od, ho, _⟩ := lookIn_ns hns
  exact ⟨od, ⟨hget, hz.1, by unfold PySem.W.notCls; rw [hv] <;> rfl, by rw [hz.2]; exact ho⟩, ho⟩
theorem call_isD (C : ExcC X.K D) (hcl : (PySem.W.clsIn X.K D).isSome = true) (hz : Zc cls d oe) (hf : ∃ vs, oe.data = .fields vs) : CallR (X.suite a ((a, oe) :: pn)) (.builtin "isinstance") (rIsD X.K D a cls d) := by
  intro pins s σ H xs us Q I r h
  obtain ⟨c, cv, b, dd, fs, rfl, hcv, rfl, rfl, hd, e, q⟩ := h
  cases r with
  | cons rx rr =>
    cases rr with
    | cons rt rr =>
      cases rr
      cases rx
      have ec := hcv _ rt
      subst ec
      obtain ⟨od, J, _⟩ := inst_xd I hz hf hd
      exact PySem.W.kia_one (PySem.W.kitx_exc hcl C.hg C.hk C.hs C.ha C.hn C.ht C.hm) I.kIn J e (fun z => nomatch z) fun tk => ⟨.bl b, H, I.kept (t' := tk) fun _ _ z => z, rfl, q⟩
theorem pe_xd {f : Str} (C : ExcC X.K D) (no : PySem.W.findIn X.K (.ref D) f = some none) (hz : Zc cls d oe) (hf : ∃ vs, oe.data = .fields vs) (he : PE (X.suite a ((a, oe) :: pn)) e te) (hb : attributeBase e f X.env (eval e X.env) = eval e X.env := by rfl) :
    PE (X.suite a ((a, oe) :: pn)) (.Attribute e f pos) (tXd D a cls d f te) where
  run := fun pins s σ H Q I h => by
    refine attr_of hb (thn (he.run pins s σ H _ I h) fun u s1 hh => ?_)
    obtain ⟨x, H1, I1, rx, rfl, rfl, dd, fs, v, rfl, ea, l, q⟩ := hh
    obtain rfl : u = Value.ref a := rx
    obtain ⟨hget, _⟩ := I1.pin (a, oe) (List.mem_append_left _ List.mem_cons_self)
    obtain ⟨vs, hv⟩ := hf
    have hx : ObjOk X.prog X.w H1 s1.heap dd (.xd fs) := I1.hok dd _ ea
    obtain ⟨mA, hns, rel⟩ := hx
    obtain ⟨od, ho, looks⟩ := lookIn_ns hns
    obtain ⟨w', hw, rw'⟩ := RelO.some_of (v := v) (o := mA f) (by rw [← l]; exact rel f)
    have J : PySem.W.InstAt s1.heap a oe D (some od) := ⟨hget, hz.1, by unfold PySem.W.notCls; rw [hv] <;> rfl, by rw [hz.2]; exact ho⟩
    exact HandSPX.exc_get I1.kIn J C.hg C.hk C.hs (PySem.W.findObj_own C.hd no rfl (by rw [looks, hw])) (handed_of rw') ⟨v, H1, I1.tok _, rw', q⟩
end
end KB
set_option Elab.async false
set_option linter.all false
set_option maxRecDepth 100000
set_option maxHeartbeats 4000000
namespace KB
open PySem PySem.Spec PyProof.Rows L2 Evl
local macro_rules | `(tactic| walk_at "ev") => `(tactic| repeat' (first | exact ev_c | exact ev_var rfl | exact rv_I0 | refine' rv_I ?_ | refine' rv_eq ?_ | refine' rv_ne ?_ | refine' ev_op ?_ ?_ ?_ | exact ea_nil | refine' ea_cons ?_ ?_ | refine' et_test ?_ | refine' et_B ?_ | refine' et_not ?_ | refine' ev_notV ?_))

open PySem LamX
theorem Takes.len {X : Cx} {W : WX} (t : Takes X W) : Takes X (fun c d σ H => σ.length = X.N.length → W c d σ H) := fun u s' ⟨a, B, sI, pins, σ, H, cls, d, e, I, nb, up, sky, na, os, ag, w⟩ => t u s' ⟨a, B, sI, pins, σ, H, cls, d, e, I, nb, up, sky, na, os, ag, w I.len⟩
theorem op_neE {X : Cx} {K : PySem.W.Frag} (h : X.K = K) (hu : X.A.units + 64 < cLine) : OpR X (compareOp .NotEq) (rNeD K) := by
  subst h
  exact op_neD hu
theorem cl_of {K : PySem.W.Frag} {D : Addr} (C : ExcC K D) : (PySem.W.clsIn K D).isSome = true := by
  obtain ⟨cd, hc, _⟩ := PySem.W.any_some C.hd
  rw [hc]
  rfl
section
variable {K : PySem.W.Frag} {σ : L2.St} {H : Hp} {te : TE} {D a0 dd : Addr} {cls cv : Value} {d : Option Addr} {c : V} {b : Bool} {s : Str} {fs : List (Str × V)}
theorem ev_isD (hv : σ[1]? = some (some (.ref a0))) (hc : Ev te σ H c) (rel : ∀ u, RelV c u → u = cv) (h1 : cls = .ref D) (h2 : d = some dd) (hx : H dd = some (.xd fs)) (e : PySem.W.kitOne K (.ref D) cv = some b) : Ev (tCB (rIsD K D a0 cls d) (tCons (tVar 1) (tCons te tNil))) σ H (.bl b) := fun H1 e1 Q q =>
  ⟨.ref a0, hv, hc H1 e1 _ fun H2 e2 => ⟨c, cv, b, dd, fs, rfl, rel, h1, h2, e2 _ _ (e1 _ _ hx), e, q H2 e2⟩⟩
theorem ev_xd {f : Str} {v : V} (hv : σ[1]? = some (some (.ref a0))) (h1 : cls = .ref D) (h2 : d = some dd) (hx : H dd = some (.xd fs)) (l : fs.lookup f = some v) : Ev (tXd D a0 cls d f (tVar 1)) σ H v := fun H1 e1 Q q =>
  ⟨.ref a0, hv, rfl, h1, dd, fs, v, h2, e1 _ _ hx, l, q H1 (Ex.refl H1)⟩
theorem rv_neMarks {p q : Addr} (h1 : H p = some (.lst [.bl true, .bl false, .bl true])) (h2 : H q = some (.lst [.bl true, .bl false, .bl true])) : RV (rNeD K) (.ref p) (.ref q) H (.bl false) := fun H1 e Q k =>
  ⟨.list [.bool true, .bool false, .bool true], .list [.bool true, .bool false, .bool true], .lst (sq_of (e _ _ h1)) (.cons (.bl _) (.cons (.bl _) (.cons (.bl _) .nil))), .lst (sq_of (e _ _ h2)) (.cons (.bl _) (.cons (.bl _) (.cons (.bl _) .nil))), by decide +kernel, by decide +kernel, by
    rw [show PyData.eqv (.list [.bool true, .bool false, .bool true]) (.list [.bool true, .bool false, .bool true]) = true by decide +kernel]
    exact k H1 (Ex.refl H1)⟩
end
theorem tx_l {l w : Int} : (txD l w).lookup ("line" : Str) = some (.int l) := by
  have n : (("line" : Str) == ("word" : Str)) = false := by decide +kernel
  have p : (("line" : Str) == ("line" : Str)) = true := by decide +kernel
  simp only [txD, List.lookup, n, p]
theorem tx_w {l w : Int} : (txD l w).lookup ("word" : Str) = some (.int w) := by
  have p : (("word" : Str) == ("word" : Str)) = true := by decide +kernel
  simp only [txD, List.lookup, p]
/-- what the answer is of what is asked: a BadText with line and word -/
def HeardX (a : Ads) (Q : VK) : XK := fun cls d H' => cls = .ref a.x_BadText ∧ ∃ (dd : Addr) (l w : Int), d = some dd ∧ H' dd = some (.xd (txD l w)) ∧ ∀ t H'', H' t = none → Ex H' H'' → H'' t = some (.tup [.str "text", .int l, .int w]) → Q (.ref t) H''
def THeard (a : Ads) : (XK → Hp → VK → Prop) → Hp → VK → Prop := fun tl H Q => tl (HeardX a Q) H fun x H1 => [V.str "told", x].length ≤ sizeLine ∧ ∀ p, H1 p = none → Q (.ref p) (upd H1 p (.tup [.str "told", x]))
theorem heard_gives {X : Cx} {a : Ads} {q : Str} {cdv : Value} (T : Txt X.w X.K X.mg a) (hu : X.A.units + 100 < cLine) : GivesTo X n__law_heard "_law_heard" (defScope s__law_heard) a.f__law_heard cdv (defBody s__law_heard) "_law_ask" q (THeard a) := by
  intro f c' s H Q tl act hc h
  refine ⟨_, pss_cons (ps_try_as (X := (cxOf C8.CX0 X.prog X.w X.K X.mg X.base n__law_heard "_law_heard" (defScope s__law_heard) a.f__law_heard cdv X.A X.stack s H C8.E0).nox) (c := .ref a.x_ModesError) (i := 1)
      (tb := fun W D σ H => ∃ Ech : XK, (∀ cls d σ' H', Ech cls d H' → σ'.length = 3 → W cls d σ' H') ∧ σ[0]? = some (some (.ref f)) ∧ H c' = some (CodeO c' q) ∧ tl Ech H fun x H1 => [V.str "told", x].length ≤ sizeLine ∧ ∀ p, H1 p = none → D.rt (.ref p) (upd H1 p (.tup [.str "told", x])))
      rfl rfl sc__law_heard.nd rfl rfl ⟨rfl, by decide, .inl T.mg_ModesError⟩ L2.takes0 (fun W pn xe tk _ => ?body) (fun a0 oe cls d pn hz hf => (pss_cons (ps_set (i := 2) sc__law_heard.nd rfl (Or.inl rfl) (pe_lst (pa_cons (pe_callB (call_isD T.ec_BadText (cl_of T.ec_BadText) hz hf) (by rfl) T.b_isinstance PyProof.Rows.boot_isinstance (pa_cons (pv 1) (pa_cons (pe_glob (v := .ref a.x_BadInput) rfl T.mg_BadInput rfl) pa_nil))) (pa_cons (pe_callB (call_isD T.ec_BadText (cl_of T.ec_BadText) hz hf) (by rfl) T.b_isinstance PyProof.Rows.boot_isinstance (pa_cons (pv 1) (pa_cons (pe_glob (v := .ref a.x_NoWay) rfl T.mg_NoWay rfl) pa_nil))) (pa_cons (pe_callB (call_isD T.ec_BadText (cl_of T.ec_BadText) hz hf) (by rfl) T.b_isinstance PyProof.Rows.boot_isinstance (pa_cons (pv 1) (pa_cons (pe_bltn (v := .ty "ValueError") (by rfl) T.b_ValueError PyProof.Rows.Boot.«ValueError» rfl) pa_nil))) pa_nil)))))
    (pss_cons (ps_if (pt_cmpR (op_neE (K := X.K) rfl (by show X.A.units + 3 + 64 < cLine; omega)) (pv 2) (pe_lst (pa_cons pe_bl (pa_cons pe_bl (pa_cons pe_bl pa_nil)))) (nomark _)) (pss_one (ps_ret (pe_tup (pa_cons pe_str pa_nil)))) pss_nil)
    (pss_cons (ps_if (PW.pt (pw_and (pt_val (pe_callB (call_isD T.ec_BadText (cl_of T.ec_BadText) hz hf) (by rfl) T.b_isinstance PyProof.Rows.boot_isinstance (pa_cons (pv 1) (pa_cons (pe_glob (v := .ref a.x_BadMode) rfl T.mg_BadMode rfl) pa_nil)))) (pw_and1 (pt_not (pt_val (pe_callB (call_isD T.ec_BadText (cl_of T.ec_BadText) hz hf) (by rfl) T.b_isinstance PyProof.Rows.boot_isinstance (pa_cons (pv 1) (pa_cons (pe_glob (v := .ref a.x_BadText) rfl T.mg_BadText rfl) pa_nil)))))))) (pss_one ps_never) pss_nil)
    (pss_one (ps_if (pt_val (pe_callB (call_isD T.ec_BadText (cl_of T.ec_BadText) hz hf) (by rfl) T.b_isinstance PyProof.Rows.boot_isinstance (pa_cons (pv 1) (pa_cons (pe_glob (v := .ref a.x_BadText) rfl T.mg_BadText rfl) pa_nil)))) (pss_one (ps_ret (pe_tup (pa_cons pe_str (pa_cons (pe_xd T.ec_BadText T.nl_BadText hz hf (pv 1)) (pa_cons (pe_xd T.ec_BadText T.nw_BadText hz hf (pv 1)) pa_nil)))))) pss_nil))))))) (pss_one (ps_ret (pe_tup (pa_cons pe_str pa_nil)))), ?reading⟩
  case body =>
    refine ⟨fun pins s' σ H' D I h' => ?_⟩
    obtain ⟨Ech, hW, h1, h2, h3⟩ := h'
    exact (pss_one (ps_ret (pe_tup (pa_cons pe_str (pa_cons (act _ pn xe Ech _ _ (Takes.len tk) (fun cls d σ' H' e => hW cls d σ' H' e)) pa_nil))))).run pins s' σ H' D I ⟨h1, h2, h3⟩
  case reading =>
    refine ⟨HeardX a Q, fun cls d σ' H' hx len => ?_, rfl, hc, h⟩
    obtain ⟨hcls, dd, l, w, hd, hxd, kk⟩ := hx
    refine ⟨true, by rw [hcls]; exact T.em_BadText, fun _ a0 ha0 => ?_, fun z => nomatch z⟩
    match σ', len with
    | [x, y, z], _ =>
      refine q_asgL (xs := [.bl true, .bl false, .bl true]) (el_lst (ea_cons (ev_isD (K := X.K) rfl ev_c (fun u r => r) hcls hd hxd T.ks_BadInput) (ea_cons (ev_isD (K := X.K) rfl ev_c (fun u r => r) hcls hd hxd T.ks_NoWay) (ea_cons (ev_isD (K := X.K) rfl ev_c (fun u r => r) hcls hd hxd T.ks_ValueError) ea_nil))) (by show 3 ≤ 100000; decide)) fun m H1 _ e1 h1 => ?_
      refine q_when (b := false) (et_test (ev_opL (ev_var rfl) (el_lst (ea_cons ev_c (ea_cons ev_c (ea_cons ev_c ea_nil))) (by show 3 ≤ 100000; decide)) fun p H2 hp e2 => rv_neMarks (K := X.K) (e2 _ _ h1) hp)) (fun z => nomatch z) fun _ H2 e2 => ?_
      have hx2 := (e1.trans e2) _ _ hxd
      refine q_when (b := false) (et_and (a := false) (b := true) (et_B (ev_isD (K := X.K) rfl ev_c (fun u r => r) hcls hd hx2 T.ks_BadMode)) (fun z => nomatch z)) (fun z => nomatch z) fun _ H3 e3 => ?_
      have hx3 := e3 _ _ hx2
      refine s_when (b := true) (et_B (ev_isD (K := X.K) rfl ev_c (fun u r => r) hcls hd hx3 T.ks_BadText)) (fun _ H4 e4 => ?_) (fun z => nomatch z)
      have hx4 := e4 _ _ hx3
      exact s_retU (xs := [.str "text", .int l, .int w]) (eu_tup (ea_cons ev_c (ea_cons (ev_xd rfl hcls hd hx4 tx_l) (ea_cons (ev_xd rfl hcls hd hx4 tx_w) ea_nil))) (by show 3 ≤ 100000; decide)) fun t H5 ht e5 h5 => kk t H5 (fresh_back (((e1.trans e2).trans e3).trans e4) ht) ((((e1.trans e2).trans e3).trans e4).trans e5) h5
end KB
set_option Elab.async false
set_option linter.all false
set_option maxRecDepth 100000
set_option maxHeartbeats 4000000
namespace KB
open PySem PySem.Spec PyProof.Rows L2 Evl
local macro_rules | `(tactic| walk_at "ev") => `(tactic| repeat' (first | exact ev_c | exact ev_var rfl | exact rv_I0 | refine' rv_I ?_ | refine' rv_eq ?_ | refine' rv_ne ?_ | refine' ev_op ?_ ?_ ?_ | exact ea_nil | refine' ea_cons ?_ ?_ | refine' et_test ?_ | refine' et_B ?_ | refine' et_not ?_ | refine' ev_notV ?_))

open PySem LamX
section
variable {X : Cx} {CX : CXT} {k : Nat} {C p g : Addr} {mc : Value} {sp : Sp} {E : XK} {o : Expr} {m : Str} {pos apos : Pos} {ta : TE} {tk : TA} {fd : FuncData} {ps ks : List Str} {kws : List Keyword} {gg : List Value → List Value → List Value} {gV : List V → List V → List V}
/-- C.m(k = v), m a classmethod -/
def tCMethK (C : Addr) (sp : Sp) (gV : List V → List V → List V) (E : XK) (ta : TE) (tk : TA) : TE := fun σ H Q => ta σ H fun x H1 => x = .ref C ∧ tk σ H1 fun zs H2 => sp (gV [.ref C] zs) H2 Q E
theorem pe_cmethK {pl : Sem Bool} (he : PE X o ta) (r : ClX.CRead X.K C mc) (c : ClX.CMet X.K C mc m p g) (F : FnOk X.prog X.w X.K X.mg X.base CX k g fd ps sp) (hr : Room k X.A) (hb : KBinds X.K fd ps ks gg gV) (hx : Passes CX X E) (hkw : PK X kws tk)
    (hall : (backToKw pos (keywordEach kws X.env)).all (·.1.isSome) = true := by rfl) (hks : (backToKw pos (keywordEach kws X.env)).filterMap (·.1) = ks := by rfl)
    (hpl : ((backTo pos (starEach [] X.env)).any (·.1) || (backToKw pos (keywordEach kws X.env)).any (·.1.isNone)) = false := by rfl)
    (ht : eval (.Call (.Attribute o m apos) [] kws pos) X.env = (do
      let ov ← eval o X.env
      standAt apos.atName
      let (f, first) ← holding [ov] (getMethod ov m pl)
      callWith pos f first (backTo pos (starEach [] X.env)) (backToKw pos (keywordEach kws X.env))) := by rfl) :
    PE X (.Call (.Attribute o m apos) [] kws pos) (tCMethK C sp gV E ta tk) := by
  refine ⟨fun pins s σ H Q I h => ?_⟩
  refine PySem.W.methodCall_KW (pl := pl) (thn (he.run pins s σ H _ I h) fun u s1 ⟨x, H1, I1, rx, ex, q⟩ => ?_) ht
  subst ex
  obtain rfl : u = Value.ref C := rx
  refine ClX.getmethcm_ok I1 r c fun s2 I2 => ?_
  refine PySem.W.callWith_of (P := PySem.W.MethP X.K s1.heap.objs.size g (.ref C)) hpl (PySem.W.keeps_M c.fi) (PyProof.Rows.evalArgs_kw2_nil hall (thn (hkw.run pos _ s2 σ H1 _ I2 q) fun ws s3 ⟨zs, H2, I3, rz, q2⟩ => ⟨⟨ClX.pin_at I3, I3.kIn⟩, ?_⟩))
  rw [hks]
  have r2 := hb.rel (vs := [.ref C]) (us := [.ref C]) (.cons rfl .nil) rz
  have hl : (gg [.ref C] ws).length = ps.length := by rw [← r2.length]; exact F.len _ _ _ _ q2
  have z : wpAny (model X.prog X.w) X.A (call (.ref s1.heap.objs.size) ([] ++ []) (ks.zip ws)) (EP X ((s1.heap.objs.size, PySem.W.methodObj (.ref g) (.ref C)) :: pins) σ Q) X.xe s3 := by
    refine wpAny_call (PySem.W.method_call (ClX.pin_at I3) (codeAny_mono (F.run X.A X.stack s3 H2 ⟨[.ref C], ks.zip ws⟩ (gg [.ref C] ws) (gV [.ref C] zs) Q E hr I3.env0 (hb.to s3 [.ref C] ws I3.kIn hl) r2 q2) fun r s' hq => ?_))
    cases r with
    | error e => exact hx _ σ H2 s3 e s' I3 hq
    | ok fl =>
      cases fl with
      | ret u => exact I3.after hq
      | next => exact False.elim hq
      | brk => exact False.elim hq
      | cont => exact False.elim hq
  exact thn z fun _ _ y => ClX.unpinE y
end
def gC1 (us ws : List V) : List V := match us, ws with | [x], [f] => [x, f] | _, _ => []
def gC1v (us ws : List Value) : List Value := match us, ws with | [x], [f] => [x, f] | _, _ => []
theorem kb_read {w : World} {K : PySem.W.Frag} {mg : Str → Option Value} {a : Ads} (T : Txt w K mg a) : KBinds K a.d_Mode_read ["cls", "text"] ["text"] gC1v gC1 where
  to := fun s us ws X hl => by
    obtain ⟨oc, od, kV, doc, pm, an, cdv, ct, osl, e, lk, hcd⟩ := T.fn_Mode_read.ex
    rw [e]
    match us, ws, hl with
    | [x], [f], _ => exact .of_eq rfl
  rel := fun {vs us zs ws} r1 r2 => by
    cases r1 with
    | nil => exact .nil
    | cons h1 t1 =>
      cases t1 with
      | cons _ _ => exact .nil
      | nil =>
        cases r2 with
        | nil => exact .nil
        | cons h2 t2 =>
          cases t2 with
          | nil => exact .cons h1 (.cons h2 .nil)
          | cons _ _ => exact .nil
/-! ### what stays when objects are drawn from, and when a lambda is made -/
/-- all stays but dicts and tables -/
def Sd (H H' : Hp) : Prop := ∀ b o, H b = some o → (∀ ps, o ≠ .tbl ps) → (∀ kvs, o ≠ .dK kvs) → H' b = some o
theorem Sd.of {H H' : Hp} (e : Ex H H') : Sd H H' := fun b o h _ _ => e b o h
theorem Sd.ofN {H H' : Hp} (e : ExtN H H') : Sd H H' := fun b o h n _ => e b o h n
theorem Sd.ofB {H H' : Hp} {p : Addr} (hb : BagAt H p) (e : ExB p H H') : Sd H H' := fun b o h _ n => e b o h fun q => by
  obtain ⟨l, ns, at_, r, s, h1, _⟩ := hb
  rw [q, h1] at h
  cases h
  exact n _ rfl
theorem Sd.trans {H H1 H2 : Hp} (a : Sd H H1) (b : Sd H1 H2) : Sd H H2 := fun c o h n m => b c o (a c o h n m) n m
theorem ModeAt.sd {a : Ads} {H H' : Hp} {p : Addr} {n : Nat} (m : ModeAt a H p n) (e : Sd H H') : ModeAt a H' p n := by
  obtain ⟨dx, h⟩ := m
  exact ⟨dx, e _ _ h (fun _ z => nomatch z) (fun _ z => nomatch z)⟩
theorem BagAt.keepN {H H' : Hp} {p : Addr} (h : BagAt H p) (e : ExtN H H') : BagAt H' p := by
  obtain ⟨l, ns, at_, rest, state, h1, h2, h3⟩ := h
  exact ⟨l, ns, at_, rest, state, e _ _ h1 (fun _ z => nomatch z), e _ _ h2 (fun _ z => nomatch z), h3⟩
theorem tabs_exB {T : List (Addr × Str)} {H H' : Hp} {p : Addr} (t : Tabs T H) (hb : BagAt H p) (e : ExB p H H') : Tabs T H' := fun q hq => by
  obtain ⟨ps, h1, tr, h2⟩ := t q hq
  obtain ⟨l, ns, at_, r, s, hd, _⟩ := hb
  refine ⟨ps, e _ _ h1 (ne_of h1 hd fun z => nomatch z), tr, fun pos cv hc => ?_⟩
  obtain ⟨c, e1, e2⟩ := h2 pos cv hc
  exact ⟨c, e1, e _ _ e2 (ne_of e2 hd fun z => nomatch z)⟩
theorem tabs_keep {T : List (Addr × Str)} {H H' : Hp} (t : Tabs T H) (e : Ex H H') : Tabs T H' := LamX.Tabs.ext t e
/-! ### odd values -/
inductive KindV (H : Hp) : V → String → Prop
  | non : KindV H .non "NoneType"
  | int (i : Int) : KindV H (.int i) "int"
  | bl (b : Bool) : KindV H (.bl b) "bool"
  | str (s : Str) : KindV H (.str s) "str"
  | tup {p : Addr} {xs : List V} (h : H p = some (.tup xs)) : KindV H (.ref p) "tuple"
  | lst {p : Addr} {xs : List V} (h : H p = some (.lst xs)) : KindV H (.ref p) "list"
theorem KindV.sd {H H' : Hp} {x : V} {t : String} (h : KindV H x t) (e : Sd H H') : KindV H' x t := by
  cases h with
  | non => exact .non
  | int i => exact .int i
  | bl b => exact .bl b
  | str s => exact .str s
  | tup h => exact .tup (e _ _ h (fun _ z => nomatch z) (fun _ z => nomatch z))
  | lst h => exact .lst (e _ _ h (fun _ z => nomatch z) (fun _ z => nomatch z))
theorem KindV.ty {K : PySem.W.Frag} {H : Hp} {x : V} {t : String} (h : KindV H x t) : TyX K H x (.type t) := by
  cases h with
  | non => exact .base .non
  | int i => exact .base (.int i)
  | bl b => exact .base (.bl b)
  | str s => exact .base (.str s)
  | tup h => exact .base (.tup h)
  | lst h => exact .base (.lst h)
theorem bag_app {H : Hp} {p l h : Addr} {xs ys : List V} (b : BagAt H p) (hl : H l = some (.lst (.ref h :: xs))) : BagAt (upd H l (.lst ys)) p := by
  obtain ⟨c, ns, at_, rest, state, h1, h2, h3⟩ := b
  have n1 : p ≠ l := ne_of h1 hl fun z => nomatch z
  have n2 : c ≠ l := fun q => by
    rw [q, hl] at h2
    injection h2 with h2
    injection h2 with h2
    match ns, h2 with
    | [], h2 => cases h2
    | _ :: _, h2 => cases h2
  exact ⟨c, ns, at_, rest, state, by rw [upd_ne n1]; exact h1, by rw [upd_ne n2]; exact h2, h3⟩
theorem tab_app {H : Hp} {T : List (Addr × Str)} {l : Addr} {xs ys : List V} (t : Tabs T H) (hl : H l = some (.lst xs)) : Tabs T (upd H l (.lst ys)) := fun q hq => by
  obtain ⟨ps, h1, tr, h2⟩ := t q hq
  refine ⟨ps, by rw [upd_ne (ne_of h1 hl fun z => nomatch z)]; exact h1, tr, fun pos cv hc => ?_⟩
  obtain ⟨c, e1, e2⟩ := h2 pos cv hc
  exact ⟨c, e1, by rw [upd_ne (ne_of e2 hl fun z => nomatch z)]; exact e2⟩
/-- a draw -/
theorem draw_is {σ : L2.St} {H : Hp} {E : XK} {p : Addr} {i : Nat} {Q : VK} (m : Nat) (hi : σ[i]? = some (some (.ref p))) (hb : BagAt H p) (h0 : 0 < m) (h1 : m ≤ 1000) (k : ∀ d H', d < m → ExB p H H' → BagAt H' p → Q (.int (d : Nat)) H') : tCall spDraw [] E (tCons (tVar i) (tCons (tC (.int (m : Nat))) tNil)) σ H Q :=
  ⟨.ref p, hi, p, m, rfl, hb, h0, h1, fun d H' hd e b => k d H' hd e b⟩

/-! ### what is heard -/
section
variable {K : PySem.W.Frag} {a : Ads} {σ : L2.St} {H : Hp} {T : List (Addr × Str)} {i j l : Nat} {p : Addr} {n c : Nat} {x y : V} {Q : VK} {s : Str}
theorem heard_core {tl : XK → Hp → VK → Prop} (tabs : Tabs T H) (hl : s.length ≤ 900)
    (sub : ∀ (E : XK) (H1 : Hp) (Q' : VK), spMRead K a [.ref a.f_Mode, .str s] H1 Q' E → tl E H1 Q')
    (k1 : ∀ n, dueS s = .inl n → ∀ t p H', ExtN H H' → Tabs T H' → H' t = some (.tup [.str "told", .ref p]) → ModeAt a H' p n → Q (.ref t) H')
    (k2 : ∀ k : Nat, dueS s = .inr k → ∀ t H', ExtN H H' → Tabs T H' → H' t = some (.tup [.str "text", .int 0, .int (k : Nat)]) → Q (.ref t) H') : Tabs T H ∧ ∀ H1, ExtN H H1 → Tabs T H1 → THeard a tl H1 Q :=
  ⟨tabs, fun H1 eN T1 => sub _ _ _ ⟨.str s, rfl, .inl ⟨s, rfl, hl, fun n hn p H2 hp e2 m => ⟨by show 2 ≤ sizeLine; decide, fun t ht => k1 n hn t p _ (eN.trans (ExtN.of (e2.trans (Ex.new ht)))) (tabs_keep T1 (e2.trans (Ex.new ht))) upd_same (m.mono (Ex.new ht))⟩,
    fun k hk d H' hd e' h' => ⟨rfl, d, 0, k, rfl, h', fun t H'' ht e'' h'' => k2 k hk t H'' (eN.trans (ExtN.of (e'.trans e''))) (tabs_keep T1 (e'.trans e'')) h''⟩⟩⟩⟩
theorem heard_read (tabs : Tabs T H) (hi : σ[i]? = some (some (.str s))) (hl : s.length ≤ 900)
    (k1 : ∀ n, dueS s = .inl n → ∀ t p H', ExtN H H' → Tabs T H' → H' t = some (.tup [.str "told", .ref p]) → ModeAt a H' p n → Q (.ref t) H')
    (k2 : ∀ k : Nat, dueS s = .inr k → ∀ t H', ExtN H H' → Tabs T H' → H' t = some (.tup [.str "text", .int 0, .int (k : Nat)]) → Q (.ref t) H') : tLam T (THeard a) (fun E => ClX.tCMeth a.f_Mode (fun vs H Q E => spMRead K a (vs ++ []) H Q E) E (tC (.ref a.f_Mode)) (tCons (tVar i) tNil)) σ H Q :=
  heard_core (K := K) tabs hl (fun E H1 Q' h => ⟨rfl, .str s, hi, h⟩) k1 k2
theorem heard_readK (tabs : Tabs T H) (hi : σ[i]? = some (some (.str s))) (hl : s.length ≤ 900)
    (k1 : ∀ n, dueS s = .inl n → ∀ t p H', ExtN H H' → Tabs T H' → H' t = some (.tup [.str "told", .ref p]) → ModeAt a H' p n → Q (.ref t) H')
    (k2 : ∀ k : Nat, dueS s = .inr k → ∀ t H', ExtN H H' → Tabs T H' → H' t = some (.tup [.str "text", .int 0, .int (k : Nat)]) → Q (.ref t) H') : tLam T (THeard a) (fun E => tCMethK a.f_Mode (spMRead K a) gC1 E (tC (.ref a.f_Mode)) (tCons (tVar i) tNil)) σ H Q :=
  heard_core (K := K) tabs hl (fun E H1 Q' h => ⟨rfl, .str s, hi, h⟩) k1 k2
theorem heard_readO {t : String} (tabs : Tabs T H) (hi : σ[i]? = some (some x)) (ko : KindV H x t) (kb : kitB t "str" = some false)
    (k2 : ∀ t H', ExtN H H' → Tabs T H' → H' t = some (.tup [.str "text", .int 0, .int 0]) → Q (.ref t) H') : tLam T (THeard a) (fun E => ClX.tCMeth a.f_Mode (fun vs H Q E => spMRead K a (vs ++ []) H Q E) E (tC (.ref a.f_Mode)) (tCons (tVar i) tNil)) σ H Q :=
  ⟨tabs, fun H1 eN T1 => ⟨rfl, x, hi, x, rfl, .inr ⟨t, fun _ e => ((ko.sd (Sd.ofN eN)).sd (Sd.of e)).ty, kb, fun d H' hd e' h' => ⟨rfl, d, 0, 0, rfl, h', fun t H'' ht e'' h'' => k2 t H'' (eN.trans (ExtN.of (e'.trans e''))) (tabs_keep T1 (e'.trans e'')) h''⟩⟩⟩⟩
end
end KB
set_option Elab.async false
set_option linter.all false
set_option maxRecDepth 100000
set_option maxHeartbeats 4000000
namespace KB
open PySem PySem.Spec PyProof.Rows L2 Evl
local macro_rules | `(tactic| walk_at "ev") => `(tactic| repeat' (first | exact ev_c | exact ev_var rfl | exact rv_I0 | refine' rv_I ?_ | refine' rv_eq ?_ | refine' rv_ne ?_ | refine' ev_op ?_ ?_ ?_ | exact ea_nil | refine' ea_cons ?_ ?_ | refine' et_test ?_ | refine' et_B ?_ | refine' et_not ?_ | refine' ev_notV ?_))

open PySem LamX
theorem inV_two (c d : Nat) : inV (.str ⟨#[c]⟩) [.str ⟨#[d]⟩, .str "-"] = (c == d || c == 45) := by
  rw [dash_is]
  have e : ∀ x y : Nat, eqV (.str ⟨#[x]⟩) (.str ⟨#[y]⟩) = (y == x) := fun x y => by
    show ((⟨#[x]⟩ : Str) == ⟨#[y]⟩) = _
    by_cases h : x = y
    · subst h
      rw [beq_self_eq_true, beq_self_eq_true]
    · rw [beq_eq_false_iff_ne.mpr (fun z => h (by injection z with z; injection z with z; injection z)), beq_eq_false_iff_ne.mpr (Ne.symm h)]
  show (eqV _ _ || (eqV _ _ || false)) = _
  rw [e, e, Bool.or_false]
theorem idx_law : ∀ j : Nat, j < 9 → atI [V.str "r", .str "w", .str "x"] ((j : Int) - (j : Int) / 3 * 3) = some (.str ⟨#[letC j]⟩) := by
  have h : ((List.range 9).all fun (j : Nat) => decide (atI [V.str "r", .str "w", .str "x"] ((j : Int) - (j : Int) / 3 * 3) = some (.str ⟨#[letC j]⟩))) = true := by decide +kernel
  exact fun j hj => of_decide_eq_true (all_nat h j hj)
theorem draw_ev {σ : L2.St} {H : Hp} {E : XK} {te : TE} {p : Addr} {i : Nat} {Q : VK} (m : Nat) (hi : σ[i]? = some (some (.ref p))) (hm : Ev te σ H (.int (m : Nat))) (hb : BagAt H p) (h0 : 0 < m) (h1 : m ≤ 1000) (k : ∀ d H', d < m → ExB p H H' → BagAt H' p → Q (.int (d : Nat)) H') : tCall spDraw [] E (tCons (tVar i) (tCons te tNil)) σ H Q :=
  ⟨.ref p, hi, hm H (Ex.refl H) _ fun H1 e1 => ⟨p, m, rfl, hb.keep e1, h0, h1, fun d H' hd e b => k d H' hd ((ExB.of e1).trans e) b⟩⟩
theorem sign13 : ∀ d : Nat, d < 13 → ∃ ch, atI ("rwx-sStT 0RX\n" : Str).cps.toList ((d : Nat) : Int) = some ch := by
  intro d hd
  have h : ((List.range 13).all fun (d : Nat) => (atI ("rwx-sStT 0RX\n" : Str).cps.toList ((d : Nat) : Int)).isSome) = true := by decide +kernel
  exact Option.isSome_iff_exists.mp (all_nat h d hd)
theorem len_app (x y : Str) : (x ++ y).length = x.length + y.length := by
  show (x.cps ++ y.cps).size = x.cps.size + y.cps.size
  exact Array.size_append
theorem len_one (c : Nat) : (⟨#[c]⟩ : Str).length = 1 := rfl
theorem rv_addS {H : Hp} {a b : Str} (h : a.length + b.length ≤ 100000) : RV (fun x y H Q => ∃ a b, x = .str a ∧ y = .str b ∧ a.length + b.length ≤ sizeLine ∧ Q (.str (a ++ b)) H) (.str a) (.str b) H (.str (a ++ b)) := fun H1 _ _ q => ⟨a, b, rfl, rfl, sz_of h, q H1 (Ex.refl H1)⟩
def dueV (s : Str) : List V := match dueS s with
  | .inl n => [.str "told", .int (n : Nat)]
  | .inr k => [.str "text", .int 0, .int (k : Nat)]
def spDue : Sp := fun vs H Q _ => ∃ s : Str, vs = [.str s] ∧ s.length ≤ 900 ∧ ∀ t H', H t = none → Ex H H' → H' t = some (.tup (dueV s)) → Q (.ref t) H'
def spSpoilt : Sp := fun vs H Q _ => ∃ (p : Addr) (s : Str), vs = [.ref p, .str s] ∧ BagAt H p ∧ s.length ≤ 300 ∧ ∀ (s' : Str) H', s'.length ≤ 3 * s.length + 1 → ExB p H H' → BagAt H' p → Q (.str s') H'
theorem ev_boolint {σ : L2.St} {H : Hp} {te : TE} {b : Bool} (h : Ev te σ H (.bl b)) : Ev (tCB (fun xs H Q => (∃ i, xs = [V.int i] ∧ Q (.int i) H) ∨ ∃ k, xs = [V.bl k] ∧ Q (.int (if k then 1 else 0)) H) (tCons te tNil)) σ H (.int (if b then 1 else 0)) := fun H1 e Q q => h H1 e _ fun H2 e2 => .inr ⟨b, rfl, q H2 e2⟩
section
variable {P : Program} {w : World} {K : PySem.W.Frag} {mg : Str → Option Value} {base : Heap} {a : Ads}
theorem ok_due (T : Txt w K mg a) : FnOk P w K mg base CX0 1 a.f__law_due a.d__law_due ["_law_signs"] spDue := by
  refine T.fn__law_due.ok sc__law_due (fun vs H Q E h => ?_) (fun cdv A outer s H vs Q E hr h => ?_)
  · obtain ⟨_, rfl, _⟩ := h
    rfl
  · obtain ⟨s0, rfl, hl, k⟩ := h
    have hsz : s0.cps.size ≤ 900 := hl
    refine ⟨_, (pss_cons (ps_for PassesOwn.never rfl (pi_range1 rfl T.b_range (pa_cons pe_int pa_nil)) (pg_name (i := 1) sc__law_due.nd rfl (Or.inl rfl)) (pss_one (ps_if (PW.pt (pw_or (pt_cmpR op_ge (pv 1) (pe_callB call_len_str (by rfl) T.b_len PySem.boot_len (pa_cons (pv 0) pa_nil)) (nomark _)) (pw_or1 (pt_cmpR op_notIn_seq (pe_ix ix_str (pv 0) (pv 1) (fun _ _ => rfl)) (pe_lst (pa_cons (pe_ix ix_list (pe_lst (pa_cons pe_str (pa_cons pe_str (pa_cons pe_str pa_nil)))) (pe_op op_sub (pv 1) (pe_op op_mul (pe_op op_fdiv (pv 1) pe_int) pe_int)) (fun _ _ => rfl)) (pa_cons pe_str pa_nil))) (by rfl))))) (pss_one (ps_ret (pe_tup (pa_cons pe_str (pa_cons pe_int (pa_cons (pv 1) pa_nil)))))) pss_nil)))
    (pss_cons (ps_if (pt_cmpR op_gt (pe_callB call_len_str (by rfl) T.b_len PySem.boot_len (pa_cons (pv 0) pa_nil)) pe_int (nomark _)) (pss_one (ps_ret (pe_tup (pa_cons pe_str (pa_cons pe_int (pa_cons pe_int pa_nil)))))) pss_nil)
    (pss_cons (ps_set (i := 2) sc__law_due.nd rfl (Or.inl rfl) pe_int)
    (pss_cons (ps_for PassesOwn.never rfl (pi_str (pv 0)) (pg_name (i := 3) sc__law_due.nd rfl (Or.inl rfl)) (pss_one (ps_set (i := 2) sc__law_due.nd rfl (Or.inl rfl) (pe_op op_add (pe_op op_mul pe_int (pv 2)) (pe_callTy call_int1 (by rfl) T.b_int (by decide +kernel) (pa_cons (pe_cmpR op_ne (pv 3) pe_str (nomark _)) pa_nil))))))
    (pss_one (ps_ret (pe_tup (pa_cons pe_str (pa_cons (pv 2) pa_nil))))))))), ?_⟩
    refine q_forR1 (n := 9) (ea_cons ev_c ea_nil) (by decide) (fun j σ' H' => ∃ o1 o2 o3, σ' = [some (.str s0), o1, o2, o3] ∧ Ex H H' ∧ ∀ k, k < j → okC s0.cps.toList k = true) (fun H1 e1 => ⟨_, _, _, rfl, e1, fun k hk => absurd hk (Nat.not_lt_zero k)⟩) (fun j σ' H1 hj q => ?_) (fun σ' H1 q => ?_)
    · obtain ⟨o1, o2, o3, rfl, e1, ok⟩ := q
      have hj9 : j < 9 := by omega
      refine s_when (b := !okC s0.cps.toList j) (et_is (et_or (a := decide (s0.cps.size ≤ j)) (b := !okC s0.cps.toList j) (et_is (et_test (ev_op (ev_var rfl) (ev_lenStr (ev_var rfl) (by omega)) rv_I0)) (decide_eq_decide.mpr ⟨fun z => by omega, fun z => by omega⟩)) fun hb => ?test) ?eqn) (fun hb H2 e2 => ?_) (fun hb H2 e2 => ?_)
      case test =>
        have hb := of_decide_eq_false hb
        have lt : j < s0.cps.toList.length := by rw [Array.length_toList]; omega
        have hc : s0.cps.toList[j]? = some s0.cps.toList[j] := List.getElem?_eq_getElem lt
        generalize s0.cps.toList[j] = c at hc
        have okj : okC s0.cps.toList j = (c == letC j || c == 45) := by unfold okC; rw [hc]
        refine et_is (et_test (ev_opL (x := .str ⟨#[c]⟩) (xs := [.str ⟨#[letC j]⟩, .str "-"]) (ev_op (ev_var rfl) (ev_var rfl) (rv_ixS (by show s0.cps.size ≤ 100000; omega) (atI_nat hc))) (el_lst (vs := [.str ⟨#[letC j]⟩, .str "-"]) (ea_cons (ev_opL1 (xs := [.str "r", .str "w", .str "x"]) (el_lst (ea_cons ev_c (ea_cons ev_c (ea_cons ev_c ea_nil))) (by show 3 ≤ 100000; decide)) (fun H2 e2 => ev_op (ev_var rfl) (ev_op (ev_op (ev_var rfl) ev_c (rv_I ⟨by decide, by decide⟩)) ev_c (rv_I (.inr ⟨by decide, by decide⟩))) rv_I0) fun p H2 hp _ => rv_ixL (K := K) (sq_of hp) (idx_law j hj9)) (ea_cons ev_c ea_nil)) (by show 2 ≤ 100000; decide)) fun p H2 hp _ => rv_niL (K := K) (sq_of hp) rfl rfl)) ?_
        rw [inV_two, okj]
      case eqn =>
        by_cases hb : s0.cps.size ≤ j
        · have : okC s0.cps.toList j = false := by unfold okC; rw [List.getElem?_eq_none (by rw [Array.length_toList]; exact hb)]
          rw [this]
          simp
        · simp [hb]
      · have bad : okC s0.cps.toList j = false := by simpa using hb
        refine s_retU (xs := [.str "text", .int 0, .int (j : Nat)]) (eu_tup (ea_cons ev_c (ea_cons ev_c (ea_cons (ev_var rfl) ea_nil))) (by show 3 ≤ 100000; decide)) fun t H3 ht e3 h3 => k t H3 (fresh_back (e1.trans e2) ht) ((e1.trans e2).trans e3) ?_
        unfold dueV dueS
        rw [bad_some hj9 ok bad]
        exact h3
      · have okj : okC s0.cps.toList j = true := by simpa using hb
        refine ⟨_, _, _, rfl, e1.trans e2, fun k hk => ?_⟩
        rcases Nat.lt_or_ge k j with lt | ge
        · exact ok k lt
        · obtain rfl : k = j := by omega
          exact okj
    · obtain ⟨o1, o2, o3, rfl, e1, ok⟩ := q
      have ok9 : ∀ k, k < 9 → okC s0.cps.toList k = true := ok
      have l9 := ok_len (ok9 8 (by decide))
      rw [Array.length_toList] at l9
      have due : dueS s0 = if 9 < s0.cps.size then .inr 9 else .inl (valN s0.cps.toList 9) := by unfold dueS; rw [bad_none ok9]
      refine q_when (b := decide (9 < s0.cps.size)) (et_is (et_test (ev_op (ev_lenStr (ev_var rfl) (by omega)) ev_c rv_I0)) (decide_eq_decide.mpr ⟨fun z => by omega, fun z => by omega⟩)) (fun hb H2 e2 => ?_) (fun hb H2 e2 => ?_)
      · have hb := of_decide_eq_true hb
        rw [if_pos hb] at due
        refine s_retU (xs := [.str "text", .int 0, .int 9]) (eu_tup (ea_cons ev_c (ea_cons ev_c (ea_cons ev_c ea_nil))) (by show 3 ≤ 100000; decide)) fun t H3 ht e3 h3 => k t H3 (fresh_back (e1.trans e2) ht) ((e1.trans e2).trans e3) ?_
        unfold dueV
        rw [due]
        exact h3
      · have hb := of_decide_eq_false hb
        rw [if_neg hb] at due
        have s9 : s0.cps.size = 9 := by omega
        refine q_asg (v := .int 0) ev_c fun H3 e3 => ?_
        refine q_forS (s := s0) (ev_var rfl) (fun j σ' H' => ∃ o1 o3, σ' = [some (.str s0), o1, some (.int (valN s0.cps.toList j : Nat)), o3] ∧ Ex H H') (fun H4 e4 => ⟨_, _, rfl, ((e1.trans e2).trans e3).trans e4⟩) (fun j c σ' H4 hc q => ?_) (fun σ' H4 q => ?_)
        · obtain ⟨o1, o3, rfl, e4⟩ := q
          refine s_asg (v := .int (valN s0.cps.toList (j + 1) : Nat)) (ev_is (ev_op (ev_op ev_c (ev_var rfl) (rv_I (.inl ⟨by decide, by decide⟩))) (ev_boolint (ev_is (ev_op (ev_var rfl) ev_c (rv_ne rfl)) (congrArg V.bl (by rw [dash_is, str1])))) rv_I0) (congrArg V.int ?_)) fun H5 e5 => ⟨_, _, rfl, e4.trans e5⟩
          show _ = ((2 * valN s0.cps.toList j + bitC s0.cps.toList j : Nat) : Int)
          have cd : s0.cps.toList.getD j 45 = c := by rw [List.getD_eq_getElem?_getD, hc]; rfl
          unfold bitC
          rw [cd]
          by_cases h : c = 45 <;> simp [h]
        · obtain ⟨o1, o3, rfl, e4⟩ := q
          rw [s9]
          refine s_retU (xs := [.str "told", .int (valN s0.cps.toList 9 : Nat)]) (eu_tup (ea_cons ev_c (ea_cons (ev_var rfl) ea_nil)) (by show 2 ≤ 100000; decide)) fun t H5 ht e5 h5 => k t H5 (fresh_back e4 ht) (e4.trans e5) ?_
          unfold dueV
          rw [due]
          exact h5
theorem ok_spoilt (T : Txt w K mg a) : FnOk P w K mg base CX0 2 a.f__law_spoilt a.d__law_spoilt ["_law_bag_here", "_law_signs"] spSpoilt := by
  have G__law_draw : FnOk P w K mg base CX0 1 _ _ _ _ := ok_draw T
  refine T.fn__law_spoilt.ok sc__law_spoilt (fun vs H Q E h => ?_) (fun cdv A outer s H vs Q E hr h => ?_)
  · obtain ⟨_, _, rfl, _⟩ := h
    rfl
  · obtain ⟨p, s0, rfl, bag, hl, k⟩ := h
    have hrc : Room 1 _ := hr
    have hsz : s0.cps.size ≤ 300 := hl
    refine ⟨_, (pss_cons (ps_set (i := 2) sc__law_spoilt.nd rfl (Or.inl rfl) (pe_call G__law_draw hrc rfl T.mg__law_draw T.fn__law_draw.kp (bd__law_draw T) .nil pass0 (pa_cons (pv 0) (pa_cons (pe_op op_add (pe_callB call_len_str (by rfl) T.b_len PySem.boot_len (pa_cons (pv 1) pa_nil)) pe_int) pa_nil))))
    (pss_cons (ps_set (i := 3) sc__law_spoilt.nd rfl (Or.inl rfl) (pe_ix ix_str pe_str (pe_call G__law_draw hrc rfl T.mg__law_draw T.fn__law_draw.kp (bd__law_draw T) .nil pass0 (pa_cons (pv 0) (pa_cons pe_int pa_nil))) (fun _ _ => rfl)))
    (pss_cons (ps_set (i := 4) sc__law_spoilt.nd rfl (Or.inl rfl) (pe_call G__law_draw hrc rfl T.mg__law_draw T.fn__law_draw.kp (bd__law_draw T) .nil pass0 (pa_cons (pv 0) (pa_cons pe_int pa_nil))))
    (pss_cons (ps_if (pt_cmpR op_eq (pv 4) pe_int (nomark _)) (pss_one (ps_ret (pe_op op_add_str (pe_slice sl_str (pv 1) po_none (po_some (pv 2))) (pe_slice sl_str (pv 1) (po_some (pe_op op_add (pv 2) pe_int)) po_none)))) pss_nil)
    (pss_cons (ps_if (pt_cmpR op_eq (pv 4) pe_int (nomark _)) (pss_one (ps_ret (pe_op op_add_str (pe_op op_add_str (pe_slice sl_str (pv 1) po_none (po_some (pv 2))) (pe_slice sl_str (pv 1) (po_some (pv 2)) (po_some (pe_op op_add (pv 2) pe_int)))) (pe_slice sl_str (pv 1) (po_some (pv 2)) po_none)))) pss_nil)
    (pss_cons (ps_if (pt_cmpR op_eq (pv 4) pe_int (nomark _)) (pss_one (ps_ret (pe_op op_add_str (pe_op op_add_str (pe_slice sl_str (pv 1) po_none (po_some (pv 2))) (pv 3)) (pe_slice sl_str (pv 1) (po_some (pv 2)) po_none)))) pss_nil)
    (pss_one (ps_ret (pe_op op_add_str (pe_op op_add_str (pe_slice sl_str (pv 1) po_none (po_some (pv 2))) (pv 3)) (pe_slice sl_str (pv 1) (po_some (pe_op op_add (pv 2) pe_int)) po_none)))))))))), ?_⟩
    refine draw_ev (s0.cps.size + 1) rfl (ev_is (ev_op (ev_lenStr (ev_var rfl) (by omega)) ev_c rv_I0) (by rw [Int.natCast_add] <;> rfl)) bag (by omega) (by omega) fun d1 H1 hd1 e1 bag1 => ?_
    refine draw_is 13 rfl bag1 (by decide) (by decide) fun d2 H2 hd2 e2 bag2 => ?_
    obtain ⟨ch, hch⟩ := sign13 d2 hd2
    refine ⟨_, (d2 : Nat), ch, rfl, rfl, by show 13 ≤ sizeLine; decide, hch, ?_⟩
    refine draw_is 5 rfl bag2 (by decide) (by decide) fun d3 H3 hd3 e3 bag3 => ?_
    have e03 := (e1.trans e2).trans e3
    have c1 := cutS_length s0 none (some (d1 : Nat))
    have c2 := cutS_length s0 (some ((d1 : Nat) + 1)) none
    have c3 := cutS_length s0 (some (d1 : Nat)) (some ((d1 : Nat) + 1))
    have c4 := cutS_length s0 (some (d1 : Nat)) none
    refine q_when (et_test (ev_op (ev_var rfl) ev_c (rv_eq rfl))) (fun _ H4 e4 => ?_) (fun _ H4 e4 => ?_)
    · exact s_ret (ev_op (ev_slS (ev_var rfl) eo_none (eo_some (ev_var rfl)) (by omega)) (ev_slS (ev_var rfl) (eo_some (ev_op (ev_var rfl) ev_c rv_I0)) eo_none (by omega)) (rv_addS (by omega))) fun H5 e5 => k _ H5 (by rw [len_app]; omega) (e03.trans (ExB.of (e4.trans e5))) (bag3.keep (e4.trans e5))
    refine q_when (et_test (ev_op (ev_var rfl) ev_c (rv_eq rfl))) (fun _ H5 e5 => ?_) (fun _ H5 e5 => ?_)
    · exact s_ret (ev_op (ev_op (ev_slS (ev_var rfl) eo_none (eo_some (ev_var rfl)) (by omega)) (ev_slS (ev_var rfl) (eo_some (ev_var rfl)) (eo_some (ev_op (ev_var rfl) ev_c rv_I0)) (by omega)) (rv_addS (by omega))) (ev_slS (ev_var rfl) (eo_some (ev_var rfl)) eo_none (by omega)) (rv_addS (by rw [len_app]; omega))) fun H6 e6 => k _ H6 (by rw [len_app, len_app]; omega) (e03.trans (ExB.of ((e4.trans e5).trans e6))) (bag3.keep ((e4.trans e5).trans e6))
    refine q_when (et_test (ev_op (ev_var rfl) ev_c (rv_eq rfl))) (fun _ H6 e6 => ?_) (fun _ H6 e6 => ?_)
    · exact s_ret (ev_op (ev_op (ev_slS (ev_var rfl) eo_none (eo_some (ev_var rfl)) (by omega)) (ev_var rfl) (rv_addS (by rw [len_one]; omega))) (ev_slS (ev_var rfl) (eo_some (ev_var rfl)) eo_none (by omega)) (rv_addS (by rw [len_app, len_one]; omega))) fun H7 e7 => k _ H7 (by rw [len_app, len_app, len_one]; omega) (e03.trans (ExB.of (((e4.trans e5).trans e6).trans e7))) (bag3.keep (((e4.trans e5).trans e6).trans e7))
    · exact s_ret (ev_op (ev_op (ev_slS (ev_var rfl) eo_none (eo_some (ev_var rfl)) (by omega)) (ev_var rfl) (rv_addS (by rw [len_one]; omega))) (ev_slS (ev_var rfl) (eo_some (ev_op (ev_var rfl) ev_c rv_I0)) eo_none (by omega)) (rv_addS (by rw [len_app, len_one]; omega))) fun H7 e7 => k _ H7 (by rw [len_app, len_app, len_one]; omega) (e03.trans (ExB.of (((e4.trans e5).trans e6).trans e7))) (bag3.keep (((e4.trans e5).trans e6).trans e7))
end
end KB
set_option Elab.async false
set_option linter.all false
set_option maxRecDepth 100000
set_option maxHeartbeats 4000000
namespace KB
open PySem PySem.Spec PyProof.Rows L2 Evl
local macro_rules | `(tactic| walk_at "ev") => `(tactic| repeat' (first | exact ev_c | exact ev_var rfl | exact rv_I0 | refine' rv_I ?_ | refine' rv_eq ?_ | refine' rv_ne ?_ | refine' ev_op ?_ ?_ ?_ | exact ea_nil | refine' ea_cons ?_ ?_ | refine' et_test ?_ | refine' et_B ?_ | refine' et_not ?_ | refine' ev_notV ?_))

open PySem LamX
abbrev qR : Str := "_law_right" ++ ".<locals>." ++ "<lambda>"
abbrev qL : Str := "law" ++ ".<locals>." ++ "<lambda>"
abbrev tabsT (a : Ads) : List (Addr × Str) := [(a.PR, qR), (a.P0, qL)]
theorem tabs_uR {w : World} {K : PySem.W.Frag} {mg : Str → Option Value} {a : Ads} (T : Txt w K mg a) : ∀ p ∈ tabsT a, p.1 = a.PR → p.2 = qR := fun p m h => by
  rcases List.mem_cons.mp m with rfl | m
  · rfl
  · rw [List.mem_singleton.mp m] at h
    exact absurd h.symm T.PRP0
theorem tabs_uL {w : World} {K : PySem.W.Frag} {mg : Str → Option Value} {a : Ads} (T : Txt w K mg a) : ∀ p ∈ tabsT a, p.1 = a.P0 → p.2 = qL := fun p m h => by
  rcases List.mem_cons.mp m with rfl | m
  · exact absurd h T.PRP0
  · rw [List.mem_singleton.mp m]
/-- what is heard of a text -/
def Fnd (a : Ads) (H : Hp) (s : Str) (t : Addr) : Prop := (∃ (n : Nat) (p : Addr), dueS s = .inl n ∧ H t = some (.tup [.str "told", .ref p]) ∧ ModeAt a H p n) ∨ ∃ k : Nat, dueS s = .inr k ∧ H t = some (.tup [.str "text", .int 0, .int (k : Nat)])
theorem Fnd.sd {a : Ads} {H H' : Hp} {s : Str} {t : Addr} (h : Fnd a H s t) (e : Sd H H') : Fnd a H' s t := by
  rcases h with ⟨n, p, d, ht, m⟩ | ⟨k, d, ht⟩
  · exact .inl ⟨n, p, d, e _ _ ht (fun _ z => nomatch z) (fun _ z => nomatch z), m.sd e⟩
  · exact .inr ⟨k, d, e _ _ ht (fun _ z => nomatch z) (fun _ z => nomatch z)⟩
theorem Fnd.app {a : Ads} {H : Hp} {s : Str} {t l : Addr} {xs ys : List V} (h : Fnd a H s t) (hl : H l = some (.lst xs)) : Fnd a (upd H l (.lst ys)) s t := by
  rcases h with ⟨n, p, d, ht, dx, m⟩ | ⟨k, d, ht⟩
  · exact .inl ⟨n, p, d, by rw [upd_ne (ne_of ht hl fun z => nomatch z)]; exact ht, dx, by rw [upd_ne (ne_of m hl fun z => nomatch z)]; exact m⟩
  · exact .inr ⟨k, d, by rw [upd_ne (ne_of ht hl fun z => nomatch z)]; exact ht⟩
section
variable {K : PySem.W.Frag} {a : Ads} {σ : L2.St} {H : Hp} {T : List (Addr × Str)} {i : Nat} {n : Nat} {x y : V} {Q : VK} {s : Str} {ta tb te : TE} {E : XK} {p : Addr}
theorem heard_readF (tabs : Tabs T H) (hi : σ[i]? = some (some (.str s))) (hl : s.length ≤ 900) (k : ∀ t H', ExtN H H' → Tabs T H' → Fnd a H' s t → Q (.ref t) H') : tLam T (THeard a) (fun E => ClX.tCMeth a.f_Mode (fun vs H Q E => spMRead K a (vs ++ []) H Q E) E (tC (.ref a.f_Mode)) (tCons (tVar i) tNil)) σ H Q :=
  heard_read (K := K) tabs hi hl (fun n hn t p H' e T' ht m => k t H' e T' (.inl ⟨n, p, hn, ht, m⟩)) fun n hn t H' e T' ht => k t H' e T' (.inr ⟨n, hn, ht⟩)
theorem heard_readKF (tabs : Tabs T H) (hi : σ[i]? = some (some (.str s))) (hl : s.length ≤ 900) (k : ∀ t H', ExtN H H' → Tabs T H' → Fnd a H' s t → Q (.ref t) H') : tLam T (THeard a) (fun E => tCMethK a.f_Mode (spMRead K a) gC1 E (tC (.ref a.f_Mode)) (tCons (tVar i) tNil)) σ H Q :=
  heard_readK (K := K) tabs hi hl (fun n hn t p H' e T' ht m => k t H' e T' (.inl ⟨n, p, hn, ht, m⟩)) fun n hn t H' e T' ht => k t H' e T' (.inr ⟨n, hn, ht⟩)
theorem ev_strM (h : Ev ta σ H (.ref p)) (m : ModeAt a H p n) (hn : n < 512) : Ev (tCB (rStrOwn a.f_Mode (fun vs H Q E => spStr a (vs ++ []) H Q E) E) (tCons ta tNil)) σ H (.str (shown n)) := fun H1 e1 Q q =>
  h H1 e1 _ fun H2 e2 => by
    have m2 := m.mono (e1.trans e2)
    obtain ⟨dx, ho⟩ := id m2
    exact ⟨p, dx, _, rfl, ho, p, n, rfl, m2, hn, fun H3 e3 => ⟨shown n, rfl, q H3 (e2.trans e3)⟩⟩
theorem ev_sameL {xs : List V} (h1 : EvL ta σ H xs) (h2 : ∀ H1, Ex H H1 → EvL tb σ H1 xs) (short : xs.length ≤ 1000) (fl : ∀ (H : Hp) (x : V), x ∈ xs → SD H 0 x x) : Ev (tCall (spSame 1) [] E (tCons ta (tCons tb tNil))) σ H (.bl true) := fun H1 e Q k =>
  h1 H1 e _ fun b H2 _ e2 x2 => h2 H2 (e.trans e2) H2 (Ex.refl _) _ fun c H3 _ e3 y3 => ⟨.ref b, .ref c, rfl, .seq false (show H3 b = _ from e3 _ _ x2) (show H3 c = _ from y3) rfl short (fun j x y hx hy => by
    rw [hx] at hy
    cases hy
    exact fl H3 x (List.mem_of_getElem? hx)), fun H4 e4 => k H4 ((e2.trans e3).trans e4)⟩
end
def spRight (a : Ads) : Sp := fun vs H Q _ => ∃ s : Str, vs = [.str s] ∧ s.length ≤ 900 ∧ Tabs (tabsT a) H ∧ ∀ H', ExtN H H' → Tabs (tabsT a) H' → Q (.bl true) H'
section
variable {P : Program} {w : World} {K : PySem.W.Frag} {mg : Str → Option Value} {base : Heap} {a : Ads}
theorem ok_right (T : Txt w K mg a) (TBR : TabB base mg a.cR a.PR) : FnOk P w K mg base CX0 11 a.f__law_right a.d__law_right ["_law_signs"] (spRight a) := by
  obtain ⟨ocR, odR, kVR, docR, pmR, anR, ctR, oslR, eR, lkR⟩ := T.cr
  rw [eR] at lkR
  rw [eR]
  have G__law_due : FnOk P w K mg base CX0 10 _ _ _ _ := (ok_due T).mono (by decide)
  have G__law_same : FnOk P w K mg base CX0 10 _ _ _ (spSame 1) := (show FnOk P w K mg base CX0 2 _ _ _ (spSame 1) from ok_sameG T 2).mono (by decide)
  have G_Mode_readL : FnOk P w K mg base (L2.CX P w) 8 _ _ _ _ := (ok_Mode_read T).mono (by decide)
  have G_Mode_number : FnOk P w K mg base CX0 9 _ _ _ _ := (ok_Mode_number T).mono (by decide)
  have G_ModeD_strD : FnOk P w K mg base CX0 8 _ _ _ _ := (ok_Mode_str T).mono (by decide)
  refine fn_of lkR T.cr_code sc__law_right (fun vs H Q E h => ?_) fun A outer s H vs Q E hr h => ?_
  · obtain ⟨_, rfl, _⟩ := h
    rfl
  · obtain ⟨s0, rfl, hl, tab, k⟩ := h
    have hrc : Room 10 _ := hr
    have hrm : Room (9 + 1) _ := hr
    have hrs : Room (8 + 2) _ := hr
    obtain ⟨ocH, odH, kVH, docH, pmH, anH, cdvH, ctH, oslH, eH, lkH, hcdH⟩ := id T.fn__law_heard.ex
    have hbH := bd__law_heard T
    rw [eH] at lkH hbH
    refine ⟨_, (show PSs (cxOf CX0 P w K mg base n__law_right "_law_right" (defScope s__law_right) a.f__law_right (.ref a.cR) A outer s H E).nox (defBody s__law_right) _ from (pss_cons (ps_set (i := 1) sc__law_right.nd rfl (Or.inl rfl) (pe_call G__law_due hrc rfl T.mg__law_due T.fn__law_due.kp (bd__law_due T) .nil pass0 (pa_cons (pv 0) pa_nil)))
    (pss_cons (ps_set (i := 2) sc__law_right.nd rfl (Or.inl rfl) (pe_lst (pa_cons (pe_lamcall (T := tabsT a) (TT := THeard a) rfl T.mg__law_heard T.fn__law_heard.kp lkH hcdH hbH sc__law_heard rfl (Or.inl rfl) (heard_gives T (show A.units + 3 + 100 < cLine by have := hr.un; have e : A.units + 3 + 16 * 10 + 200 < cLine := this; omega)) TBR rfl (List.mem_cons_self ..) (tabs_uR T) (k := 8) hrc (lamS_by (show lamSB (defScope s__law_right) _ = true by decide +kernel)) rfl (fun _ _ _ _ _ => rfl) (fun _ _ _ _ _ _ _ hr2 => (ClX.pe_cmeth (pe_glob (v := .ref a.f_Mode) rfl T.mg_Mode rfl) T.r_Mode T.m_Mode_read (G_Mode_readL.raw (bd_Mode_read T) .nil) hr2 (passes_call (takes_of rfl rfl rfl rfl) fun _ _ _ _ h => h) (pa_cons (pv 0) pa_nil)))) pa_nil)))
    (pss_cons (ps_expr (pe_bm PySem.F.plainAttrs_list PySem.F.slot_list_append PySem.F.type_list_append mt_append (pv 2) (pa_cons (pe_lamcall (T := tabsT a) (TT := THeard a) rfl T.mg__law_heard T.fn__law_heard.kp lkH hcdH hbH sc__law_heard rfl (Or.inl rfl) (heard_gives T (show A.units + 3 + 100 < cLine by have := hr.un; have e : A.units + 3 + 16 * 10 + 200 < cLine := this; omega)) TBR rfl (List.mem_cons_self ..) (tabs_uR T) (k := 8) hrc (lamS_by (show lamSB (defScope s__law_right) _ = true by decide +kernel)) rfl (fun _ _ _ _ _ => rfl) (fun _ _ _ _ _ _ _ hr2 => (pe_cmethK (pe_glob (v := .ref a.f_Mode) rfl T.mg_Mode rfl) T.r_Mode T.m_Mode_read G_Mode_readL hr2 (kb_read T) (passes_call (takes_of rfl rfl rfl rfl) fun _ _ _ _ h => h) (pk_cons (pv 0) pk_nil)))) pa_nil)))
    (pss_cons (ps_for PassesOwn.never rfl (pi_list (pv 2)) (pg_name (i := 3) sc__law_right.nd rfl (Or.inl rfl)) (pss_one (ps_if (pt_cmpR op_eq (pe_ix ix_tup (pv 1) pe_int (fun _ _ => rfl)) pe_str (nomark _)) (pss_one (ps_if (PW.pt (pw_or (pt_cmpR op_ne (pe_ix ix_tup (pv 3) pe_int (fun _ _ => rfl)) pe_str (nomark _)) (pw_or1 (pt_not (pt_val (pe_call G__law_same hrc rfl T.mg__law_same T.fn__law_same.kp (bd__law_same T) .nil pass0 (pa_cons (pe_lst (pa_cons (pe_prop (pe_ix ix_tup (pv 3) pe_int (fun _ _ => rfl)) T.c_Mode T.p_Mode_number (G_Mode_number) hrm (bd_Mode_number T) .nil pass0 rfl) (pa_cons (pe_callTy (call_strOwn T.m_ModeD_strD.at_ T.m_ModeD_strD.fn (G_ModeD_strD.raw (bd_ModeD_strD T) .nil) hrs pass0) (by rfl) T.b_str (by decide +kernel) (pa_cons (pe_ix ix_tup (pv 3) pe_int (fun _ _ => rfl)) pa_nil)) pa_nil))) (pa_cons (pe_lst (pa_cons (pe_ix ix_tup (pv 1) pe_int (fun _ _ => rfl)) (pa_cons (pv 0) pa_nil))) pa_nil)))))))) (pss_one (ps_ret pe_bl)) pss_nil)) (pss_one (ps_if (pt_not (pt_val (pe_call G__law_same hrc rfl T.mg__law_same T.fn__law_same.kp (bd__law_same T) .nil pass0 (pa_cons (pv 3) (pa_cons (pv 1) pa_nil))))) (pss_one (ps_ret pe_bl)) pss_nil)))))
    (pss_one (ps_ret pe_bl))))))).nox, ?_⟩
    refine ⟨.str s0, rfl, s0, rfl, hl, fun t0 H1 ht0 e1 h1 => ?_⟩
    refine heard_readF (K := K) (a := a) (tabs_keep tab e1) rfl hl fun t H2 e2 tab2 f2 => ⟨by show 1 ≤ sizeLine; decide, fun ll hll => ?_⟩
    have e12 : ExtN H H2 := (ExtN.of e1).trans e2
    have el := Ex.new hll (o := .lst [.ref t])
    have hll' : upd H2 ll (.lst [.ref t]) ll = some (.lst [.ref t]) := upd_same
    have f2' := f2.sd (Sd.of el)
    have h0' := el _ _ (e2 _ _ h1 (fun _ z => nomatch z))
    have tab2' := tabs_keep tab2 el
    have e2' := e12.trans (ExtN.of el)
    generalize upd H2 ll (.lst [.ref t]) = H3 at hll' f2' h0' tab2' e2'
    refine ⟨.ref ll, rfl, .inl ⟨rfl, _, sq_of hll'⟩, heard_readKF (K := K) (a := a) tab2' rfl hl fun t' H4 e4 tab4 f4 => ⟨ll, [.ref t], .ref t', rfl, rfl, e4 _ _ hll' (fun _ z => nomatch z), by show 1 < sizeLine; decide, ?_⟩⟩
    have hll4 := e4 _ _ hll' (fun _ z => nomatch z)
    have h04 := e4 _ _ h0' (fun _ z => nomatch z)
    have fa := (f2'.sd (Sd.ofN e4)).app (ys := [.ref t] ++ [.ref t']) hll4
    have fb := f4.app (ys := [.ref t] ++ [.ref t']) hll4
    have tab5 := tab_app (ys := [.ref t] ++ [.ref t']) tab4 hll4
    have h05 : upd H4 ll (.lst ([.ref t] ++ [.ref t'])) t0 = some (.tup (dueV s0)) := by rw [upd_ne (ne_of h04 hll4 fun z => nomatch z)]; exact h04
    have e05 : ExtN H (upd H4 ll (.lst ([.ref t] ++ [.ref t']))) := fun b o hb nt => by
      have ne : b ≠ ll := fun z => by
        rw [z] at hb
        have := e12 _ _ hb nt
        rw [hll] at this
        cases this
      rw [upd_ne ne]
      exact (e2'.trans e4) _ _ hb nt
    have hll5 : upd H4 ll (.lst ([.ref t] ++ [.ref t'])) ll = some (.lst ([.ref t] ++ [.ref t'])) := upd_same
    generalize upd H4 ll (.lst ([.ref t] ++ [.ref t'])) = H5 at fa fb tab5 h05 e05 hll5
    refine q_forL (K := K) (xs := [.ref t] ++ [.ref t']) (ev_var rfl) (sq_of hll5) (fun i σ' H' => ∃ o3, σ' = [some (.str s0), some (.ref t0), some (.ref ll), o3] ∧ Ex H5 H') (fun H6 e6 => ⟨_, rfl, e6⟩) (fun i σ' H' _ q => by
      obtain ⟨_, _, e6⟩ := q
      exact sq_of (e6 _ _ hll5)) (fun i x σ' H6 hx q => ?_) (fun σ' H6 q => ?_)
    · obtain ⟨o3, rfl, e6⟩ := q
      have fx : ∃ tt, x = .ref tt ∧ Fnd a H5 s0 tt := by
        match i, hx with
        | 0, hx => cases hx; exact ⟨_, rfl, fa⟩
        | 1, hx => cases hx; exact ⟨_, rfl, fb⟩
      obtain ⟨tt, rfl, ff⟩ := fx
      have ff := ff.sd (Sd.of e6)
      have h06 := e6 _ _ h05
      unfold dueV at h06
      rcases ff with ⟨n, pm, hd, htt, hm⟩ | ⟨kk, hd, htt⟩
      · rw [hd] at h06
        obtain ⟨hn, sh⟩ := shown_of hd
        obtain ⟨dm, hom⟩ := id hm
        refine s_if (b := true) (et_is (et_test (ev_op (ev_op (ev_var rfl) ev_c (rv_ixT (K := K) (st_of h06) rfl)) ev_c (rv_eq rfl))) (by simp)) (fun _ H7 e7 => ?_) (fun z => nomatch z)
        have htt7 := e7 _ _ htt
        have h07 := e7 _ _ h06
        refine s_when (b := false) (et_is (et_or (a := false) (et_is (et_test (ev_op (ev_op (ev_var rfl) ev_c (rv_ixT (K := K) (st_of htt7) rfl)) ev_c (rv_ne rfl))) (by simp)) fun _ => et_not (a := true) (et_B (ev_sameL (xs := [.int (n : Nat), .str s0]) (el_lst (vs := [.int (n : Nat), .str s0]) (ea_cons (ev_prop (ev_op (ev_var rfl) ev_c (rv_ixT (K := K) (st_of htt7) rfl)) (e7 _ _ hom) (spv_get (v := .int (n : Nat)) (e7 _ _ hom) (by simp [List.lookup]))) (ea_cons (ev_is (ev_strM (ev_op (ev_var rfl) ev_c (rv_ixT (K := K) (i := 1) (st_of htt7) rfl)) (hm.mono e7) hn) (congrArg V.str sh)) ea_nil)) (by show 2 ≤ 100000; decide)) (fun H8 e8 => el_lst (vs := [.int (n : Nat), .str s0]) (ea_cons (ev_op (ev_var rfl) ev_c (rv_ixT (K := K) (st_of (e8 _ _ h07)) rfl)) (ea_cons (ev_var rfl) ea_nil)) (by show 2 ≤ 100000; decide)) (by show 2 ≤ 1000; decide) (fun H x m => by
          rcases List.mem_cons.mp m with rfl | m
          · exact .int 0 _
          · rw [List.mem_singleton.mp m]
            exact .str 0 _)))) rfl) (fun z => nomatch z) fun _ H8 e8 => ?_
        exact ⟨_, rfl, (e6.trans e7).trans e8⟩
      · rw [hd] at h06
        refine s_if (b := false) (et_is (et_test (ev_op (ev_op (ev_var rfl) ev_c (rv_ixT (K := K) (st_of h06) rfl)) ev_c (rv_eq rfl))) (by decide +kernel)) (fun z => nomatch z) (fun _ H7 e7 => ?_)
        have htt7 := e7 _ _ htt
        have h07 := e7 _ _ h06
        refine s_when (b := false) (et_not (a := true) (et_B (ev_call (sp := spSame 1) (dvs := []) (vs := [.ref tt, .ref t0]) (ea_cons (ev_var rfl) (ea_cons (ev_var rfl) ea_nil)) fun H8 e8 Q8 q8 E8 => ⟨.ref tt, .ref t0, rfl, .seq true (e8 _ _ htt7) (e8 _ _ h07) rfl (by show 3 ≤ 1000; decide) (fun j x y hx hy => ?_), q8⟩))) (fun z => nomatch z) fun _ H8 e8 => ?_
        · rw [hx] at hy
          cases hy
          match j, hx with
          | 0, hx => cases hx; exact .str 0 _
          | 1, hx => cases hx; exact .int 0 _
          | 2, hx => cases hx; exact .int 0 _
        · exact ⟨_, rfl, (e6.trans e7).trans e8⟩
    · obtain ⟨o3, rfl, e6⟩ := q
      exact s_ret (v := .bl true) ev_c fun H7 e7 => k H7 (e05.trans (ExtN.of (e6.trans e7))) (tabs_keep tab5 (e6.trans e7))
end
end KB
set_option Elab.async false
set_option linter.all false
set_option maxRecDepth 100000
set_option maxHeartbeats 4000000
namespace KB
open PySem PySem.Spec PyProof.Rows L2 Evl
local macro_rules | `(tactic| walk_at "ev") => `(tactic| repeat' (first | exact ev_c | exact ev_var rfl | exact rv_I0 | refine' rv_I ?_ | refine' rv_eq ?_ | refine' rv_ne ?_ | refine' ev_op ?_ ?_ ?_ | exact ea_nil | refine' ea_cons ?_ ?_ | refine' et_test ?_ | refine' et_B ?_ | refine' et_not ?_ | refine' ev_notV ?_))

open PySem LamX
theorem idx2_law : ∀ j : Nat, j < 9 → ∃ c, atI ("rwx" : Str).cps.toList ((j : Int) - (j : Int) / 3 * 3) = some c := by
  intro j hj
  have h : ((List.range 9).all fun (j : Nat) => (atI ("rwx" : Str).cps.toList ((j : Int) - (j : Int) / 3 * 3)).isSome) = true := by decide +kernel
  exact Option.isSome_iff_exists.mp (all_nat h j hj)
theorem heard_readO2 {K : PySem.W.Frag} {a : Ads} {σ : L2.St} {H : Hp} {T : List (Addr × Str)} {i : Nat} {x : V} {Q : VK} {t : String} (tabs : Tabs T H) (hi : σ[i]? = some (some x)) (ko : ∀ H1, ExtN H H1 → TyX K H1 x (.type t)) (kb : kitB t "str" = some false)
    (k2 : ∀ t H', ExtN H H' → Tabs T H' → H' t = some (.tup [.str "text", .int 0, .int 0]) → Q (.ref t) H') : tLam T (THeard a) (fun E => ClX.tCMeth a.f_Mode (fun vs H Q E => spMRead K a (vs ++ []) H Q E) E (tC (.ref a.f_Mode)) (tCons (tVar i) tNil)) σ H Q :=
  ⟨tabs, fun H1 eN T1 => ⟨rfl, x, hi, x, rfl, .inr ⟨t, fun _ e => ko _ (eN.trans (ExtN.of e)), kb, fun d H' hd e' h' => ⟨rfl, d, 0, 0, rfl, h', fun t H'' ht e'' h'' => k2 t H'' (eN.trans (ExtN.of (e'.trans e''))) (tabs_keep T1 (e'.trans e'')) h''⟩⟩⟩⟩
def oddAt (l1 l3 t1 d1 : Addr) : List V := [.non, .int 0, .int 511, .bl true, .ref l1, .ref l3, .ref t1, .ref d1]
theorem odd_at {K : PySem.W.Frag} {H : Hp} {l1 l3 t1 d1 : Addr} {x1 x3 xt : List V} (h1 : H l1 = some (.lst x1)) (h3 : H l3 = some (.lst x3)) (ht : H t1 = some (.tup xt)) (hd : H d1 = some (.dK [])) (d : Nat) (hd8 : d < 8) : ∃ x, (oddAt l1 l3 t1 d1)[d]? = some x ∧ ∃ t, (∀ H1, ExtN H H1 → TyX K H1 x (.type t)) ∧ kitB t "str" = some false := by
  match d, hd8 with
  | 0, _ => exact ⟨_, rfl, _, fun _ _ => .base .non, by decide +kernel⟩
  | 1, _ => exact ⟨_, rfl, _, fun _ _ => .base (.int _), by decide +kernel⟩
  | 2, _ => exact ⟨_, rfl, _, fun _ _ => .base (.int _), by decide +kernel⟩
  | 3, _ => exact ⟨_, rfl, _, fun _ _ => .base (.bl _), by decide +kernel⟩
  | 4, _ => exact ⟨_, rfl, _, fun _ e => .base (.lst (e _ _ h1 (fun _ z => nomatch z))), by decide +kernel⟩
  | 5, _ => exact ⟨_, rfl, _, fun _ e => .base (.lst (e _ _ h3 (fun _ z => nomatch z))), by decide +kernel⟩
  | 6, _ => exact ⟨_, rfl, _, fun _ e => .base (.tup (e _ _ ht (fun _ z => nomatch z))), by decide +kernel⟩
  | 7, _ => exact ⟨_, rfl, _, fun _ e => .base (.dK (e _ _ hd (fun _ z => nomatch z))), by decide +kernel⟩
def spLaw (K : PySem.W.Frag) (a : Ads) : Sp := fun vs H Q _ => ∃ (s : Addr) (ns : List Int), vs = [.ref s] ∧ SqL K H s (ns.map V.int) ∧ ns.length ≤ 63 ∧ H a.PR = some (.tbl #[]) ∧ H a.P0 = some (.tbl #[]) ∧ ∀ H', Q (.bl true) H'
section
variable {P : Program} {w : World} {K : PySem.W.Frag} {mg : Str → Option Value} {base : Heap} {a : Ads}
theorem ok_law (T : Txt w K mg a) {fL : Addr} {oc kV doc pm ct : Value} {od an : Option Addr} {osl : Array (Option Value)} (lkL : K.lookup fL = some ⟨oc, od, .func (PySem.W.fnOf "law" "law" (defArgs s_law) (defBody s_law) (defScope s_law) .none kV doc pm an (.ref a.cA) ct), osl⟩) (hcdL : PySem.W.codeIn K (.ref a.cA) "law" = true) (TBR : TabB base mg a.cR a.PR) (TBL : TabB base mg a.cA a.P0) :
    FnOk P w K mg base CX0 13 fL (PySem.W.fnOf "law" "law" (defArgs s_law) (defBody s_law) (defScope s_law) .none kV doc pm an (.ref a.cA) ct) ["_law_script"] (spLaw K a) := by
  have G__law_bag : FnOk P w K mg base CX0 12 _ _ _ _ := (ok_bag T).mono (by decide)
  have G__law_draw : FnOk P w K mg base CX0 12 _ _ _ _ := (ok_draw T).mono (by decide)
  have G__law_spoilt : FnOk P w K mg base CX0 12 _ _ _ _ := (ok_spoilt T).mono (by decide)
  have G__law_right : FnOk P w K mg base CX0 12 _ _ _ _ := (ok_right T TBR).mono (by decide)
  have G__law_same : FnOk P w K mg base CX0 12 _ _ _ (spSame 1) := (show FnOk P w K mg base CX0 2 _ _ _ (spSame 1) from ok_sameG T 2).mono (by decide)
  have G_Mode_readL : FnOk P w K mg base (L2.CX P w) 10 _ _ _ _ := (ok_Mode_read T).mono (by decide)
  refine fn_of lkL hcdL sc_law (fun vs H Q E h => ?_) fun A outer s H vs Q E hr h => ?_
  · obtain ⟨_, _, rfl, _⟩ := h
    rfl
  · obtain ⟨sc, ns, rfl, hs, hl, tabR, tabL, k⟩ := h
    have hrc : Room 12 _ := hr
    obtain ⟨ocH, odH, kVH, docH, pmH, anH, cdvH, ctH, oslH, eH, lkH, hcdH⟩ := id T.fn__law_heard.ex
    have hbH := bd__law_heard T
    rw [eH] at lkH hbH
    refine ⟨_, (show PSs (cxOf CX0 P w K mg base n_law "law" (defScope s_law) fL (.ref a.cA) A outer s H E).nox (defBody s_law) _ from (pss_cons (ps_set (i := 1) sc_law.nd rfl (Or.inl rfl) (pe_call G__law_bag hrc rfl T.mg__law_bag T.fn__law_bag.kp (bd__law_bag T) .nil pass0 (pa_cons (pv 0) pa_nil)))
    (pss_cons (ps_for PassesOwn.never rfl (pi_range1 rfl T.b_range (pa_cons pe_int pa_nil)) (pg_name (i := 2) sc_law.nd rfl (Or.inl rfl)) (pss_cons (ps_set (i := 3) sc_law.nd rfl (Or.inl rfl) pe_str)
    (pss_cons (ps_for PassesOwn.never rfl (pi_range1 rfl T.b_range (pa_cons pe_int pa_nil)) (pg_name (i := 4) sc_law.nd rfl (Or.inl rfl)) (pss_one (ps_set (i := 3) sc_law.nd rfl (Or.inl rfl) (pe_op op_add_str (pv 3) (pe_ix ix_list (pe_lst (pa_cons pe_str (pa_cons (pe_ix ix_str pe_str (pe_op op_sub (pv 4) (pe_op op_mul (pe_op op_fdiv (pv 4) pe_int) pe_int)) (fun _ _ => rfl)) pa_nil))) (pe_call G__law_draw hrc rfl T.mg__law_draw T.fn__law_draw.kp (bd__law_draw T) .nil pass0 (pa_cons (pv 1) (pa_cons pe_int pa_nil))) (fun _ _ => rfl))))))
    (pss_cons (ps_if (pt_not (pt_val (pe_call G__law_right hrc rfl T.mg__law_right T.fn__law_right.kp (bd__law_right T) .nil pass0 (pa_cons (pv 3) pa_nil)))) (pss_one (ps_ret pe_bl)) pss_nil)
    (pss_one (ps_for PassesOwn.never rfl (pi_range1 rfl T.b_range (pa_cons pe_int pa_nil)) (pg_name (i := 5) sc_law.nd rfl (Or.inl rfl)) (pss_cons (ps_set (i := 3) sc_law.nd rfl (Or.inl rfl) (pe_call G__law_spoilt hrc rfl T.mg__law_spoilt T.fn__law_spoilt.kp (bd__law_spoilt T) .nil pass0 (pa_cons (pv 1) (pa_cons (pv 3) pa_nil))))
    (pss_one (ps_if (pt_not (pt_val (pe_call G__law_right hrc rfl T.mg__law_right T.fn__law_right.kp (bd__law_right T) .nil pass0 (pa_cons (pv 3) pa_nil)))) (pss_one (ps_ret pe_bl)) pss_nil)))))))))
    (pss_cons (ps_set (i := 6) sc_law.nd rfl (Or.inr rfl) (pe_ix ix_list (pe_lst (pa_cons pe_non (pa_cons pe_int (pa_cons pe_int (pa_cons pe_bl (pa_cons (pe_lst pa_nil) (pa_cons (pe_op op_rep (pe_lst (pa_cons pe_str pa_nil)) pe_int) (pa_cons (pe_tup (pa_cons pe_str pa_nil)) (pa_cons pe_dnewK pa_nil))))))))) (pe_call G__law_draw hrc rfl T.mg__law_draw T.fn__law_draw.kp (bd__law_draw T) .nil pass0 (pa_cons (pv 1) (pa_cons pe_int pa_nil))) (fun _ _ => rfl)))
    (pss_cons (ps_if (pt_not (pt_val (pe_call G__law_same hrc rfl T.mg__law_same T.fn__law_same.kp (bd__law_same T) .nil pass0 (pa_cons (pe_lamcall (T := tabsT a) (TT := THeard a) rfl T.mg__law_heard T.fn__law_heard.kp lkH hcdH hbH sc__law_heard rfl (Or.inl rfl) (heard_gives T (show A.units + 3 + 100 < cLine by have := hr.un; have e : A.units + 3 + 16 * 12 + 200 < cLine := this; omega)) TBL rfl (List.mem_cons_of_mem _ (List.mem_singleton.mpr rfl)) (tabs_uL T) (k := 10) hrc (lamS_by (show lamSB (defScope s_law) _ = true by decide +kernel)) rfl (fun _ _ _ _ _ => rfl) (fun _ _ _ _ _ _ _ hr2 => (ClX.pe_cmeth (pe_glob (v := .ref a.f_Mode) rfl T.mg_Mode rfl) T.r_Mode T.m_Mode_read (G_Mode_readL.raw (bd_Mode_read T) .nil) hr2 (passes_call (takes_of rfl rfl rfl rfl) fun _ _ _ _ h => h) (pa_cons (pv 6) pa_nil)))) (pa_cons (pe_tup (pa_cons pe_str (pa_cons pe_int (pa_cons pe_int pa_nil)))) pa_nil))))) (pss_one (ps_ret pe_bl)) pss_nil)
    (pss_one (ps_ret (pe_and (pe_call G__law_right hrc rfl T.mg__law_right T.fn__law_right.kp (bd__law_right T) .nil pass0 (pa_cons pe_str pa_nil)) (pe_and (pe_call G__law_right hrc rfl T.mg__law_right T.fn__law_right.kp (bd__law_right T) .nil pass0 (pa_cons pe_str pa_nil)) (pe_and (pe_call G__law_right hrc rfl T.mg__law_right T.fn__law_right.kp (bd__law_right T) .nil pass0 (pa_cons pe_str pa_nil)) (pe_one (pe_call G__law_right hrc rfl T.mg__law_right T.fn__law_right.kp (bd__law_right T) .nil pass0 (pa_cons pe_str pa_nil))))))))))))).nox, ?_⟩
    refine ⟨.ref sc, rfl, sc, ns, rfl, hs, hl, fun p H1 hp e1 bag1 => ?_⟩
    have tab1 : Tabs (tabsT a) H1 := fun q hq => by
      rcases List.mem_cons.mp hq with rfl | hq
      · exact TabS.nil (e1 _ _ tabR)
      · rw [List.mem_singleton.mp hq]
        exact TabS.nil (e1 _ _ tabL)
    refine q_forR1 (n := 8) (ea_cons ev_c ea_nil) (by decide) (fun i σ' H' => ∃ o2 o3 o4 o5 o6, σ' = [some (.ref sc), some (.ref p), o2, o3, o4, o5, o6] ∧ BagAt H' p ∧ Tabs (tabsT a) H') (fun H2 e2 => ⟨_, _, _, _, _, rfl, bag1.keep e2, tabs_keep tab1 e2⟩) (fun i σ' H2 hi q => ?_) (fun σ' H2 q => ?_)
    · obtain ⟨o2, o3, o4, o5, o6, rfl, bag2, tab2⟩ := q
      refine q_asg (v := .str "") ev_c fun H3 e3 => ?_
      refine q_forR1 (n := 9) (ea_cons ev_c ea_nil) (by decide) (fun j σ' H' => ∃ (s' : Str) (o4 : Option V), σ' = [some (.ref sc), some (.ref p), some (.int (i : Nat)), some (.str s'), o4, o5, o6] ∧ s'.length ≤ j ∧ BagAt H' p ∧ Tabs (tabsT a) H') (fun H4 e4 => ⟨_, _, rfl, Nat.le_refl _, bag2.keep (e3.trans e4), tabs_keep tab2 (e3.trans e4)⟩) (fun j σ' H4 hj q => ?_) (fun σ' H4 q => ?_)
      · obtain ⟨s', o4', rfl, hl4, bag4, tab4⟩ := q
        have hj9 : j < 9 := by omega
        obtain ⟨c, hc⟩ := idx2_law j hj9
        refine ⟨.str s', rfl, (el_lst (vs := [.str "-", .str ⟨#[c]⟩]) (ea_cons ev_c (ea_cons (ev_op ev_c (ev_op (ev_var rfl) (ev_op (ev_op (ev_var rfl) ev_c (rv_I ⟨by decide, by decide⟩)) ev_c (rv_I (.inr ⟨by decide, by decide⟩))) rv_I0) (rv_ixS (by show 3 ≤ 100000; decide) hc)) ea_nil)) (by show 2 ≤ 100000; decide)) H4 (Ex.refl _) _ fun pl H5 _ e5 h5 => draw_is 2 rfl (bag4.keep e5) (by decide) (by decide) fun d H6 hd e6 bag6 => ?_⟩
        have tab6 := tabs_exB (tabs_keep tab4 e5) (bag4.keep e5) e6
        have h6 := (Sd.ofB (bag4.keep e5) e6) _ _ h5 (fun _ z => nomatch z) (fun _ z => nomatch z)
        have hx : ∃ xs : Str, ([.str "-", .str ⟨#[c]⟩] : List V)[d]? = some (.str xs) ∧ xs.length = 1 := by
          match d, hd with
          | 0, _ => exact ⟨_, rfl, rfl⟩
          | 1, _ => exact ⟨_, rfl, rfl⟩
        obtain ⟨xs, hx, hx1⟩ := hx
        refine ⟨pl, _, (d : Nat), .str xs, rfl, rfl, sq_of h6, atI_nat hx, s', xs, rfl, rfl, sz_of (by omega), _, _, rfl, by rw [len_app, hx1]; omega, bag6, tab6⟩
      · obtain ⟨s', o4', rfl, hl4, bag4, tab4⟩ := q
        have hl9 : s'.length ≤ 9 := hl4
        refine ⟨.str s', rfl, s', rfl, by omega, tab4, fun H5 e5 tab5 => ⟨true, rfl, iteF ?_⟩⟩
        refine s_forR1 (n := 2) (ea_cons ev_c ea_nil) (by decide) (fun j σ' H' => ∃ (s' : Str) (o4 o5 : Option V), σ' = [some (.ref sc), some (.ref p), some (.int (i : Nat)), some (.str s'), o4, o5, o6] ∧ s'.length + 1 ≤ 10 * 4 ^ j ∧ BagAt H' p ∧ Tabs (tabsT a) H') (fun H6 e6 => ⟨_, _, _, rfl, by rw [Nat.pow_zero]; omega, (bag4.keepN e5).keep e6, tabs_keep tab5 e6⟩) (fun j σ' H6 hj q => ?_) (fun σ' H6 q => ?_)
        · obtain ⟨s6, o4'', o5'', rfl, hl6, bag6, tab6⟩ := q
          have hj2 : j < 2 := by omega
          have p4 : 4 ^ j ≤ 4 := by
            match j, hj2 with
            | 0, _ => decide
            | 1, _ => decide
          refine ⟨.ref p, rfl, .str s6, rfl, p, s6, rfl, bag6, by omega, fun s7 H7 hl7 e7 bag7 => ?_⟩
          have tab7 := tabs_exB tab6 bag6 e7
          refine ⟨.str s7, rfl, s7, rfl, by omega, tab7, fun H8 e8 tab8 => ⟨true, rfl, iteF ⟨_, _, _, rfl, by rw [Nat.pow_succ]; omega, bag7.keepN e8, tab8⟩⟩⟩
        · obtain ⟨s6, o4'', o5'', rfl, hl6, bag6, tab6⟩ := q
          exact ⟨_, _, _, _, _, rfl, bag6, tab6⟩
    · obtain ⟨o2, o3, o4, o5, o6, rfl, bag2, tab2⟩ := q
      refine ⟨by show 0 ≤ sizeLine; decide, fun l1 hl1 => ?_⟩
      have b3 := bag2.keep (Ex.new hl1 (o := .lst []))
      have t3 := tabs_keep tab2 (Ex.new hl1 (o := .lst []))
      have x1 : upd H2 l1 (.lst []) l1 = some (.lst []) := upd_same
      generalize upd H2 l1 (.lst []) = H3 at b3 t3 x1
      refine ⟨by show 1 ≤ sizeLine; decide, fun l2 hl2 => ⟨l2, 9, [.str "r"], rfl, rfl, upd_same, by decide, by decide, by show 1 * 9 ≤ sizeLine; decide, fun l3 hl3 => ?_⟩⟩
      have e4 := (Ex.new hl2 (o := .lst [.str "r"])).trans (Ex.new hl3 (o := .lst (List.replicate (9 : Int).toNat [V.str "r"]).flatten))
      have b4 := b3.keep e4
      have t4 := tabs_keep t3 e4
      have x1 := e4 _ _ x1
      have x3 : upd (upd H3 l2 (.lst [.str "r"])) l3 (.lst (List.replicate (9 : Int).toNat [V.str "r"]).flatten) l3 = some (.lst (List.replicate (9 : Int).toNat [V.str "r"]).flatten) := upd_same
      generalize upd (upd H3 l2 (.lst [.str "r"])) l3 (.lst (List.replicate (9 : Int).toNat [V.str "r"]).flatten) = H4 at b4 t4 x1 x3
      refine ⟨by show 1 ≤ sizeLine; decide, fun tq htq => ?_⟩
      have e5 := Ex.new htq (o := .tup [.str "rwxrwxrwx"])
      have b5 := b4.keep e5
      have t5 := tabs_keep t4 e5
      have x1 := e5 _ _ x1
      have x3 := e5 _ _ x3
      have xt : upd H4 tq (.tup [.str "rwxrwxrwx"]) tq = some (.tup [.str "rwxrwxrwx"]) := upd_same
      generalize upd H4 tq (.tup [.str "rwxrwxrwx"]) = H5 at b5 t5 x1 x3 xt
      intro dq hdq
      have dp : dq ≠ p := by
        obtain ⟨_, _, _, _, _, hb, _⟩ := id b5
        exact (ne_of_none hb hdq).symm
      have e6 := Ex.new hdq (o := .dK [])
      have b6 := b5.keep e6
      have t6 := tabs_keep t5 e6
      have x1 := e6 _ _ x1
      have x3 := e6 _ _ x3
      have xt := e6 _ _ xt
      have xd : upd H5 dq (.dK []) dq = some (.dK []) := upd_same
      generalize upd H5 dq (.dK []) = H6 at b6 t6 x1 x3 xt xd
      refine ⟨by show 8 ≤ sizeLine; decide, fun od hod => ?_⟩
      have e7 := Ex.new hod (o := .lst (oddAt l1 l3 tq dq))
      have b7 := b6.keep e7
      have t7 := tabs_keep t6 e7
      have x1 := e7 _ _ x1
      have x3 := e7 _ _ x3
      have xt := e7 _ _ xt
      have xd := e7 _ _ xd
      have xo : upd H6 od (.lst (oddAt l1 l3 tq dq)) od = some (.lst (oddAt l1 l3 tq dq)) := upd_same
      show tCall _ _ _ _ _ (upd H6 od (.lst (oddAt l1 l3 tq dq))) _
      generalize upd H6 od (.lst (oddAt l1 l3 tq dq)) = H7 at b7 t7 x1 x3 xt xd xo
      refine draw_is 8 rfl b7 (by decide) (by decide) fun d H8 hd e8 b8 => ?_
      have s8 := Sd.ofB b7 e8
      obtain ⟨x, hx, ty, hty, kb⟩ := odd_at (K := K) (s8 _ _ x1 (fun _ z => nomatch z) (fun _ z => nomatch z)) (s8 _ _ x3 (fun _ z => nomatch z) (fun _ z => nomatch z)) (s8 _ _ xt (fun _ z => nomatch z) (fun _ z => nomatch z)) (e8 _ _ xd dp) d hd
      refine ⟨od, _, (d : Nat), x, rfl, rfl, sq_of (s8 _ _ xo (fun _ z => nomatch z) (fun _ z => nomatch z)), atI_nat hx, ?_⟩
      refine heard_readO2 (K := K) (a := a) (tabs_exB t7 b7 e8) rfl hty kb fun th H9 e9 t9 hth => ⟨by show 3 ≤ sizeLine; decide, fun q hq => ⟨.ref th, .ref q, rfl, .seq true (Ex.new hq _ _ hth) upd_same rfl (by show 3 ≤ 1000; decide) (fun j x y hx hy => ?_), fun H10 e10 => ⟨true, rfl, iteF ?_⟩⟩⟩
      · rw [hx] at hy
        cases hy
        match j, hx with
        | 0, hx => cases hx; exact .str 0 _
        | 1, hx => cases hx; exact .int 0 _
        | 2, hx => cases hx; exact .int 0 _
      have t10 := tabs_keep t9 ((Ex.new hq).trans e10)
      exact ⟨"", rfl, by show 0 ≤ 900; decide, t10, fun H11 e11 t11 => ⟨true, rfl, "rwxrwxrwx", rfl, by show 9 ≤ 900; decide, t11, fun H12 e12 t12 => ⟨true, rfl, "---------", rfl, by show 9 ≤ 900; decide, t12, fun H13 e13 t13 => ⟨true, rfl, "rwxrwxrwx-", rfl, by show 10 ≤ 900; decide, t13, fun H14 e14 t14 => k H14⟩⟩⟩⟩
end
end KB
set_option Elab.async false
set_option linter.all false
set_option maxRecDepth 100000
set_option maxHeartbeats 4000000
namespace KB
open PySem PySem.Spec PyProof.Rows L2 Evl
local macro_rules | `(tactic| walk_at "ev") => `(tactic| repeat' (first | exact ev_c | exact ev_var rfl | exact rv_I0 | refine' rv_I ?_ | refine' rv_eq ?_ | refine' rv_ne ?_ | refine' ev_op ?_ ?_ ?_ | exact ea_nil | refine' ea_cons ?_ ?_ | refine' et_test ?_ | refine' et_B ?_ | refine' et_not ?_ | refine' ev_notV ?_))

open PySem
theorem kit_self {K : PySem.W.Frag} {C : Addr} : PySem.W.kitOne K (.ref C) (.ref C) = some true := by
  unfold PySem.W.kitOne
  rw [if_pos (beq_iff_eq.mpr rfl)]
theorem kit_no {K : PySem.W.Frag} {C : Addr} {cd : PySem.ClassData} (ci : PySem.W.clsIn K C = some cd) (ti : PySem.W.typeIn K (.ref C) = some (.type "type")) (su : PySem.W.subIn K (.type "int") (.ref C) = some false) : PySem.W.kitOne K (.type "int") (.ref C) = some false := by
  unfold PySem.W.kitOne PySem.W.kitCls
  rw [if_neg (fun h => by have := beq_iff_eq.mp h; cases this)]
  show (if ((PySem.W.clsIn K C).isSome && PySem.W.typeIn K (.ref C) == some (.type "type")) = true then PySem.W.subIn K (.type "int") (.ref C) else none) = some false
  rw [if_pos (by rw [ci, ti]; simp), su]
theorem tup_at {K : PySem.W.Frag} {H : Hp} {k : Addr} {its : Array Value} {n : Nat} {od : Option Addr} {sl : Array (Option Value)} {xs : List V} (l : K.lookup k = some ⟨.type "tuple", od, .seq its n, sl⟩) (z : its.size ≤ sizeLine) (r : Vals xs its.toList) : SqT K H k xs := .inr ⟨_, its, n, l, rfl, rfl, z, r⟩
theorem kit_ref {K : PySem.W.Frag} {D B : Addr} {cd : PySem.ClassData} {b : Bool} (ci : PySem.W.clsIn K B = some cd) (ti : PySem.W.typeIn K (.ref B) = some (.type "type")) (su : PySem.W.subIn K (.ref D) (.ref B) = some b) (ne : D ≠ B) : PySem.W.kitOne K (.ref D) (.ref B) = some b := by
  unfold PySem.W.kitOne PySem.W.kitCls
  rw [if_neg (fun h => by have := beq_iff_eq.mp h; cases this; exact ne rfl)]
  show (if ((PySem.W.clsIn K B).isSome && PySem.W.typeIn K (.ref B) == some (.type "type")) = true then PySem.W.subIn K (.ref D) (.ref B) else none) = some b
  rw [if_pos (by rw [ci, ti]; simp), su]
theorem kit_ve {K : PySem.W.Frag} {D : Addr} {b : Bool} (su : PySem.W.subIn K (.ref D) (.type "ValueError") = some b) : PySem.W.kitOne K (.ref D) (.type "ValueError") = some b := by
  unfold PySem.W.kitOne PySem.W.kitCls
  rw [if_neg (fun h => by have := beq_iff_eq.mp h; cases this)]
  show (if PySem.W.kitMeta "ValueError" = true then PySem.W.subIn K (.ref D) (.type "ValueError") else none) = some b
  rw [if_pos (by decide +kernel), su]
theorem exm_ref {K : PySem.W.Frag} {D B : Addr} {cd : PySem.ClassData} {b : Bool} (ex : PySem.W.subIn K (.ref B) (.type "BaseException") = some true) (ci : PySem.W.clsIn K B = some cd) (ti : PySem.W.typeIn K (.ref B) = some (.type "type")) (su : PySem.W.subIn K (.ref D) (.ref B) = some b) : PySem.W.exmOne K (.ref D) (.ref B) = some b := by
  unfold PySem.W.exmOne PySem.W.kitCls
  rw [if_pos (by rw [ex]; rfl)]
  show (if ((PySem.W.clsIn K B).isSome && PySem.W.typeIn K (.ref B) == some (.type "type")) = true then PySem.W.subIn K (.ref D) (.ref B) else none) = some b
  rw [if_pos (by rw [ci, ti]; simp), su]
theorem all_mk {l : PySem.W.OpenLaw} {w : World} {K : PySem.W.Frag} {h : Heap} {mg : Str → Option Value} {fa : Addr} (X : K.In h) (G : h.Ns mainGlobals mg) (hfa : mg "law" = some (.ref fa))
    {f_is_whole f_is_whole_to f__law_bag f__law_draw f__law_same f__law_due f__law_spoilt f__law_right f_Mode f_ModeD_initD f_Mode_number p_Mode_number f_ModeD_strD f_Mode_read p_Mode_read k_NINE_BITS x_BadMode x_BadInput x_NoWay x_BadText x_ModesError f_BadTextD_initD f__law_heard cA P0 cR PR f_law : Addr}
    {od_is_whole : Option Addr} {an_is_whole : Option Addr} {sl_is_whole : Array (Option Value)} {oc_is_whole kV_is_whole dc_is_whole pm_is_whole ct_is_whole : Value} {cd_is_whole : Value} {od_is_whole_to : Option Addr} {an_is_whole_to : Option Addr} {sl_is_whole_to : Array (Option Value)} {oc_is_whole_to kV_is_whole_to dc_is_whole_to pm_is_whole_to ct_is_whole_to : Value} {cd_is_whole_to : Value} {od__law_bag : Option Addr} {an__law_bag : Option Addr} {sl__law_bag : Array (Option Value)} {oc__law_bag kV__law_bag dc__law_bag pm__law_bag ct__law_bag : Value} {cd__law_bag : Value} {od__law_draw : Option Addr} {an__law_draw : Option Addr} {sl__law_draw : Array (Option Value)} {oc__law_draw kV__law_draw dc__law_draw pm__law_draw ct__law_draw : Value} {cd__law_draw : Value} {od__law_same : Option Addr} {an__law_same : Option Addr} {sl__law_same : Array (Option Value)} {oc__law_same kV__law_same dc__law_same pm__law_same ct__law_same : Value} {cd__law_same : Value} {od__law_due : Option Addr} {an__law_due : Option Addr} {sl__law_due : Array (Option Value)} {oc__law_due kV__law_due dc__law_due pm__law_due ct__law_due : Value} {cd__law_due : Value} {od__law_spoilt : Option Addr} {an__law_spoilt : Option Addr} {sl__law_spoilt : Array (Option Value)} {oc__law_spoilt kV__law_spoilt dc__law_spoilt pm__law_spoilt ct__law_spoilt : Value} {cd__law_spoilt : Value} {od__law_right : Option Addr} {an__law_right : Option Addr} {sl__law_right : Array (Option Value)} {oc__law_right kV__law_right dc__law_right pm__law_right ct__law_right : Value} {od_ModeD_initD : Option Addr} {an_ModeD_initD : Option Addr} {sl_ModeD_initD : Array (Option Value)} {oc_ModeD_initD kV_ModeD_initD dc_ModeD_initD pm_ModeD_initD ct_ModeD_initD : Value} {cd_ModeD_initD : Value} {re_Mode_number : List Value} {od_Mode_number : Option Addr} {an_Mode_number : Option Addr} {sl_Mode_number : Array (Option Value)} {oc_Mode_number kV_Mode_number dc_Mode_number pm_Mode_number ct_Mode_number : Value} {cd_Mode_number : Value} {od_ModeD_strD : Option Addr} {an_ModeD_strD : Option Addr} {sl_ModeD_strD : Array (Option Value)} {oc_ModeD_strD kV_ModeD_strD dc_ModeD_strD pm_ModeD_strD ct_ModeD_strD : Value} {cd_ModeD_strD : Value} {tk_Mode_MOST : Tok} {re_Mode_read : List Value} {od_Mode_read : Option Addr} {an_Mode_read : Option Addr} {sl_Mode_read : Array (Option Value)} {oc_Mode_read kV_Mode_read dc_Mode_read pm_Mode_read ct_Mode_read : Value} {cd_Mode_read : Value} {cd_Mode : PySem.ClassData} {its_NINE_BITS : Array Value} {tn_NINE_BITS : Nat} {tod_NINE_BITS : Option Addr} {tsl_NINE_BITS : Array (Option Value)} {tk_NS : Tok} {nmB qB : Str} {NB : Addr} {bsB bmB : List Value} {snB : List Str} {subB : List Value} {abB : Bool} {colB : Option Bool} {ddB : Option Addr} {m0B m1B m2B m3B m5B : Option Value} {od_BadTextD_initD : Option Addr} {an_BadTextD_initD : Option Addr} {sl_BadTextD_initD : Array (Option Value)} {oc_BadTextD_initD kV_BadTextD_initD dc_BadTextD_initD pm_BadTextD_initD ct_BadTextD_initD : Value} {cd_BadTextD_initD : Value} {cdx_BadInput : PySem.ClassData} {cdx_NoWay : PySem.ClassData} {cdx_BadMode : PySem.ClassData} {cdx_ModesError : PySem.ClassData} {od__law_heard : Option Addr} {an__law_heard : Option Addr} {sl__law_heard : Array (Option Value)} {oc__law_heard kV__law_heard dc__law_heard pm__law_heard ct__law_heard : Value} {cd__law_heard : Value} {od_law : Option Addr} {an_law : Option Addr} {sl_law : Array (Option Value)} {oc_law kV_law dc_law pm_law ct_law : Value} {od_cA : Option Addr} {vs_cA : Array Value} {sl_cA : Array (Option Value)} {od_cR : Option Addr} {vs_cR : Array Value} {sl_cR : Array (Option Value)}
    (z_ValueError : PySem.W.nsIn K mainGlobals "ValueError" = some none)
    (z_isinstance : PySem.W.nsIn K mainGlobals "isinstance" = some none)
    (z_int : PySem.W.nsIn K mainGlobals "int" = some none)
    (z_bool : PySem.W.nsIn K mainGlobals "bool" = some none)
    (z_str : PySem.W.nsIn K mainGlobals "str" = some none)
    (z_list : PySem.W.nsIn K mainGlobals "list" = some none)
    (z_len : PySem.W.nsIn K mainGlobals "len" = some none)
    (z_abs : PySem.W.nsIn K mainGlobals "abs" = some none)
    (z_range : PySem.W.nsIn K mainGlobals "range" = some none)
    (z_tuple : PySem.W.nsIn K mainGlobals "tuple" = some none)
    (z_enumerate : PySem.W.nsIn K mainGlobals "enumerate" = some none)
    (z_min : PySem.W.nsIn K mainGlobals "min" = some none)
    (z_zip : PySem.W.nsIn K mainGlobals "zip" = some none)
    (a_is_whole : PySem.W.nsIn K mainGlobals "is_whole" = some (some (.ref f_is_whole)))
    (l_is_whole : K.lookup f_is_whole = some ⟨oc_is_whole, od_is_whole, .func (PySem.W.fnOf "is_whole" "is_whole" (defArgs s_is_whole) (defBody s_is_whole) (defScope s_is_whole) .none kV_is_whole dc_is_whole pm_is_whole an_is_whole cd_is_whole ct_is_whole), sl_is_whole⟩)
    (co_is_whole : PySem.W.codeIn K cd_is_whole "is_whole" = true)
    (kp_is_whole : PySem.W.keepIn K (.ref f_is_whole) = true)
    (a_is_whole_to : PySem.W.nsIn K mainGlobals "is_whole_to" = some (some (.ref f_is_whole_to)))
    (l_is_whole_to : K.lookup f_is_whole_to = some ⟨oc_is_whole_to, od_is_whole_to, .func (PySem.W.fnOf "is_whole_to" "is_whole_to" (defArgs s_is_whole_to) (defBody s_is_whole_to) (defScope s_is_whole_to) .none kV_is_whole_to dc_is_whole_to pm_is_whole_to an_is_whole_to cd_is_whole_to ct_is_whole_to), sl_is_whole_to⟩)
    (co_is_whole_to : PySem.W.codeIn K cd_is_whole_to "is_whole_to" = true)
    (kp_is_whole_to : PySem.W.keepIn K (.ref f_is_whole_to) = true)
    (a__law_bag : PySem.W.nsIn K mainGlobals "_law_bag" = some (some (.ref f__law_bag)))
    (l__law_bag : K.lookup f__law_bag = some ⟨oc__law_bag, od__law_bag, .func (PySem.W.fnOf "_law_bag" "_law_bag" (defArgs s__law_bag) (defBody s__law_bag) (defScope s__law_bag) .none kV__law_bag dc__law_bag pm__law_bag an__law_bag cd__law_bag ct__law_bag), sl__law_bag⟩)
    (co__law_bag : PySem.W.codeIn K cd__law_bag "_law_bag" = true)
    (kp__law_bag : PySem.W.keepIn K (.ref f__law_bag) = true)
    (a__law_draw : PySem.W.nsIn K mainGlobals "_law_draw" = some (some (.ref f__law_draw)))
    (l__law_draw : K.lookup f__law_draw = some ⟨oc__law_draw, od__law_draw, .func (PySem.W.fnOf "_law_draw" "_law_draw" (defArgs s__law_draw) (defBody s__law_draw) (defScope s__law_draw) .none kV__law_draw dc__law_draw pm__law_draw an__law_draw cd__law_draw ct__law_draw), sl__law_draw⟩)
    (co__law_draw : PySem.W.codeIn K cd__law_draw "_law_draw" = true)
    (kp__law_draw : PySem.W.keepIn K (.ref f__law_draw) = true)
    (a__law_same : PySem.W.nsIn K mainGlobals "_law_same" = some (some (.ref f__law_same)))
    (l__law_same : K.lookup f__law_same = some ⟨oc__law_same, od__law_same, .func (PySem.W.fnOf "_law_same" "_law_same" (defArgs s__law_same) (defBody s__law_same) (defScope s__law_same) .none kV__law_same dc__law_same pm__law_same an__law_same cd__law_same ct__law_same), sl__law_same⟩)
    (co__law_same : PySem.W.codeIn K cd__law_same "_law_same" = true)
    (kp__law_same : PySem.W.keepIn K (.ref f__law_same) = true)
    (a__law_due : PySem.W.nsIn K mainGlobals "_law_due" = some (some (.ref f__law_due)))
    (l__law_due : K.lookup f__law_due = some ⟨oc__law_due, od__law_due, .func (PySem.W.fnOf "_law_due" "_law_due" (defArgs s__law_due) (defBody s__law_due) (defScope s__law_due) .none kV__law_due dc__law_due pm__law_due an__law_due cd__law_due ct__law_due), sl__law_due⟩)
    (co__law_due : PySem.W.codeIn K cd__law_due "_law_due" = true)
    (kp__law_due : PySem.W.keepIn K (.ref f__law_due) = true)
    (a__law_spoilt : PySem.W.nsIn K mainGlobals "_law_spoilt" = some (some (.ref f__law_spoilt)))
    (l__law_spoilt : K.lookup f__law_spoilt = some ⟨oc__law_spoilt, od__law_spoilt, .func (PySem.W.fnOf "_law_spoilt" "_law_spoilt" (defArgs s__law_spoilt) (defBody s__law_spoilt) (defScope s__law_spoilt) .none kV__law_spoilt dc__law_spoilt pm__law_spoilt an__law_spoilt cd__law_spoilt ct__law_spoilt), sl__law_spoilt⟩)
    (co__law_spoilt : PySem.W.codeIn K cd__law_spoilt "_law_spoilt" = true)
    (kp__law_spoilt : PySem.W.keepIn K (.ref f__law_spoilt) = true)
    (a__law_right : PySem.W.nsIn K mainGlobals "_law_right" = some (some (.ref f__law_right)))
    (l__law_right : K.lookup f__law_right = some ⟨oc__law_right, od__law_right, .func (PySem.W.fnOf "_law_right" "_law_right" (defArgs s__law_right) (defBody s__law_right) (defScope s__law_right) .none kV__law_right dc__law_right pm__law_right an__law_right (.ref cR) ct__law_right), sl__law_right⟩)
    (co__law_right : PySem.W.codeIn K (.ref cR) "_law_right" = true)
    (kp__law_right : PySem.W.keepIn K (.ref f__law_right) = true)
    (a_Mode : PySem.W.nsIn K mainGlobals "Mode" = some (some (.ref f_Mode)))
    (pg_Mode : PySem.W.plainGet K f_Mode Str.empty = true)
    (hd_Mode : PySem.W.hasDictIn K f_Mode = true)
    (po_Mode : PySem.W.plainOver K f_Mode = true)
    (sa_Mode : PySem.W.findIn K (.ref f_Mode) "__setattr__" = some (some (.builtin "object.__setattr__")))
    (n_number_Mode : PySem.W.findIn K (.ref f_Mode) "_number" = some none)
    (at_ModeD_initD : PySem.W.findIn K (.ref f_Mode) "__init__" = some (some (.ref f_ModeD_initD)))
    (fi_ModeD_initD : PySem.W.isFn K (.ref f_ModeD_initD) = true)
    (l_ModeD_initD : K.lookup f_ModeD_initD = some ⟨oc_ModeD_initD, od_ModeD_initD, .func (PySem.W.fnOf "__init__" "Mode.__init__" (defArgs s_ModeD_initD) (defBody s_ModeD_initD) (defScope s_ModeD_initD) .none kV_ModeD_initD dc_ModeD_initD pm_ModeD_initD an_ModeD_initD cd_ModeD_initD ct_ModeD_initD), sl_ModeD_initD⟩)
    (co_ModeD_initD : PySem.W.codeIn K cd_ModeD_initD "Mode.__init__" = true)
    (kp_ModeD_initD : PySem.W.keepIn K (.ref f_ModeD_initD) = true)
    (mk_Mode : PySem.W.makesIn K f_Mode = true)
    (kc_Mode : PySem.W.keepIn K (.ref f_Mode) = true)
    (at_Mode_number : PySem.W.findIn K (.ref f_Mode) "number" = some (some (.ref p_Mode_number)))
    (ge_Mode_number : PySem.W.specialIn K (.ref p_Mode_number) "__get__" = some (some (.builtin "property.__get__")))
    (ta_Mode_number : PySem.W.takesIn K (.ref p_Mode_number) = some true)
    (rc_Mode_number : PySem.W.recIn K p_Mode_number "property" = some (.ref f_Mode_number :: re_Mode_number))
    (l_Mode_number : K.lookup f_Mode_number = some ⟨oc_Mode_number, od_Mode_number, .func (PySem.W.fnOf "number" "Mode.number" (defArgs s_Mode_number) (defBody s_Mode_number) (defScope s_Mode_number) .none kV_Mode_number dc_Mode_number pm_Mode_number an_Mode_number cd_Mode_number ct_Mode_number), sl_Mode_number⟩)
    (co_Mode_number : PySem.W.codeIn K cd_Mode_number "Mode.number" = true)
    (kp_Mode_number : PySem.W.keepIn K (.ref f_Mode_number) = true)
    (at_ModeD_strD : PySem.W.findIn K (.ref f_Mode) "__str__" = some (some (.ref f_ModeD_strD)))
    (fi_ModeD_strD : PySem.W.isFn K (.ref f_ModeD_strD) = true)
    (l_ModeD_strD : K.lookup f_ModeD_strD = some ⟨oc_ModeD_strD, od_ModeD_strD, .func (PySem.W.fnOf "__str__" "Mode.__str__" (defArgs s_ModeD_strD) (defBody s_ModeD_strD) (defScope s_ModeD_strD) .none kV_ModeD_strD dc_ModeD_strD pm_ModeD_strD an_ModeD_strD cd_ModeD_strD ct_ModeD_strD), sl_ModeD_strD⟩)
    (co_ModeD_strD : PySem.W.codeIn K cd_ModeD_strD "Mode.__str__" = true)
    (kp_ModeD_strD : PySem.W.keepIn K (.ref f_ModeD_strD) = true)
    (rd_Mode : PySem.W.readsIn K f_Mode (.type "type") = true)
    (ga_Mode : PySem.W.specialIn K (.ref f_Mode) "__getattribute__" = some (some (.builtin "type.__getattribute__")))
    (cv_Mode_MOST : PySem.W.findCls K (.ref f_Mode) (.type "type") "MOST" = some (.val (.int 511 tk_Mode_MOST)))
    (at_Mode_read : PySem.W.findCls K (.ref f_Mode) (.type "type") "read" = some (.get (.builtin "classmethod.__get__") (.ref p_Mode_read) .none (.ref f_Mode)))
    (rc_Mode_read : PySem.W.recIn K p_Mode_read "classmethod" = some (.ref f_Mode_read :: re_Mode_read))
    (fm_Mode_read : PySem.W.fnIn K f_Mode_read = true)
    (l_Mode_read : K.lookup f_Mode_read = some ⟨oc_Mode_read, od_Mode_read, .func (PySem.W.fnOf "read" "Mode.read" (defArgs s_Mode_read) (defBody s_Mode_read) (defScope s_Mode_read) .none kV_Mode_read dc_Mode_read pm_Mode_read an_Mode_read cd_Mode_read ct_Mode_read), sl_Mode_read⟩)
    (co_Mode_read : PySem.W.codeIn K cd_Mode_read "Mode.read" = true)
    (kp_Mode_read : PySem.W.keepIn K (.ref f_Mode_read) = true)
    (ia_Mode : PySem.W.findIn K (.ref f_Mode) "__class__" = some (some (.builtin "object.__class__")))
    (im_Mode : PySem.W.mroIn K f_Mode (.type "object") = some true)
    (ci_Mode : PySem.W.clsIn K f_Mode = some cd_Mode)
    (ti_Mode : PySem.W.typeIn K (.ref f_Mode) = some (.type "type"))
    (su_Mode : PySem.W.subIn K (.type "int") (.ref f_Mode) = some false)
    (in0 : PySem.W.specialIn K (.builtin "object.__class__") "__get__" = some (some (.builtin "getset_descriptor.__get__")))
    (it0 : PySem.W.takesIn K (.builtin "object.__class__") = some true)
    (a_NINE_BITS : PySem.W.nsIn K mainGlobals "NINE_BITS" = some (some (.ref k_NINE_BITS)))
    (lt_NINE_BITS : K.lookup k_NINE_BITS = some ⟨.type "tuple", tod_NINE_BITS, .seq its_NINE_BITS tn_NINE_BITS, tsl_NINE_BITS⟩)
    (sz_NINE_BITS : its_NINE_BITS.size ≤ sizeLine)
    (vl_NINE_BITS : Vals ([256, 128, 64, 32, 16, 8, 4, 2, 1].map V.int) its_NINE_BITS.toList)
    (a_NINE_SIGNS : PySem.W.nsIn K mainGlobals "NINE_SIGNS" = some (some (.str "rwxrwxrwx" tk_NS)))
    (a_BadMode : PySem.W.nsIn K mainGlobals "BadMode" = some (some (.ref x_BadMode)))
    (a_BadInput : PySem.W.nsIn K mainGlobals "BadInput" = some (some (.ref x_BadInput)))
    (a_NoWay : PySem.W.nsIn K mainGlobals "NoWay" = some (some (.ref x_NoWay)))
    (a_BadText : PySem.W.nsIn K mainGlobals "BadText" = some (some (.ref x_BadText)))
    (a_ModesError : PySem.W.nsIn K mainGlobals "ModesError" = some (some (.ref x_ModesError)))
    (xl_B : K.lookup x_BadText = some (excClassObj nmB qB x_BadText NB bsB bmB true snB subB abB colB ddB m0B m1B m2B m3B m5B "ValueError.__new__"))
    (rf_B : PySem.HandSPX.refsVE bmB = true)
    (sa_B : PySem.W.findIn K (.ref x_BadText) "__setattr__" = some (some (.builtin "object.__setattr__")))
    (ex_B : PySem.W.subIn K (.ref x_BadText) (.type "BaseException") = some true)
    (ty_B : PySem.W.typeIn K (.ref x_BadText) = some (.type "type"))
    (kp_B : PySem.W.keepIn K (.ref x_BadText) = true)
    (ga_B : PySem.W.findIn K (.ref x_BadText) "__getattribute__" = some (some (.builtin "BaseException.__getattribute__")))
    (gg_B : PySem.W.findIn K (.ref x_BadText) "__getattr__" = some none)
    (hd_B : PySem.W.hasDictIn K x_BadText = true)
    (cc_B : PySem.W.findIn K (.ref x_BadText) "__class__" = some (some (.builtin "object.__class__")))
    (mr_B : PySem.W.mroIn K x_BadText (.type "object") = some true)
    (nl_B : PySem.W.findIn K (.ref x_BadText) "line" = some none)
    (nw_B : PySem.W.findIn K (.ref x_BadText) "word" = some none)
    (in_B : PySem.W.findIn K (.ref x_BadText) "__init__" = some (some (.ref f_BadTextD_initD)))
    (ti_B : PySem.W.typeIn K (.ref f_BadTextD_initD) = some (.type "function"))
    (l_BadTextD_initD : K.lookup f_BadTextD_initD = some ⟨oc_BadTextD_initD, od_BadTextD_initD, .func (PySem.W.fnOf "__init__" "BadText.__init__" (defArgs s_BadTextD_initD) (defBody s_BadTextD_initD) (defScope s_BadTextD_initD) .none kV_BadTextD_initD dc_BadTextD_initD pm_BadTextD_initD an_BadTextD_initD cd_BadTextD_initD ct_BadTextD_initD), sl_BadTextD_initD⟩)
    (co_BadTextD_initD : PySem.W.codeIn K cd_BadTextD_initD "BadText.__init__" = true)
    (kp_BadTextD_initD : PySem.W.keepIn K (.ref f_BadTextD_initD) = true)
    (cix_BadInput : PySem.W.clsIn K x_BadInput = some cdx_BadInput)
    (tix_BadInput : PySem.W.typeIn K (.ref x_BadInput) = some (.type "type"))
    (cix_NoWay : PySem.W.clsIn K x_NoWay = some cdx_NoWay)
    (tix_NoWay : PySem.W.typeIn K (.ref x_NoWay) = some (.type "type"))
    (cix_BadMode : PySem.W.clsIn K x_BadMode = some cdx_BadMode)
    (tix_BadMode : PySem.W.typeIn K (.ref x_BadMode) = some (.type "type"))
    (cix_ModesError : PySem.W.clsIn K x_ModesError = some cdx_ModesError)
    (tix_ModesError : PySem.W.typeIn K (.ref x_ModesError) = some (.type "type"))
    (sux_BadInput : PySem.W.subIn K (.ref x_BadText) (.ref x_BadInput) = some true)
    (nex_BadInput : x_BadText ≠ x_BadInput)
    (sux_NoWay : PySem.W.subIn K (.ref x_BadText) (.ref x_NoWay) = some false)
    (nex_NoWay : x_BadText ≠ x_NoWay)
    (sux_BadMode : PySem.W.subIn K (.ref x_BadText) (.ref x_BadMode) = some false)
    (nex_BadMode : x_BadText ≠ x_BadMode)
    (suv_B : PySem.W.subIn K (.ref x_BadText) (.type "ValueError") = some true)
    (bex_ME : PySem.W.subIn K (.ref x_ModesError) (.type "BaseException") = some true)
    (sux_ME : PySem.W.subIn K (.ref x_BadText) (.ref x_ModesError) = some true)
    (a__law_heard : PySem.W.nsIn K mainGlobals "_law_heard" = some (some (.ref f__law_heard)))
    (l__law_heard : K.lookup f__law_heard = some ⟨oc__law_heard, od__law_heard, .func (PySem.W.fnOf "_law_heard" "_law_heard" (defArgs s__law_heard) (defBody s__law_heard) (defScope s__law_heard) .none kV__law_heard dc__law_heard pm__law_heard an__law_heard cd__law_heard ct__law_heard), sl__law_heard⟩)
    (co__law_heard : PySem.W.codeIn K cd__law_heard "_law_heard" = true)
    (kp__law_heard : PySem.W.keepIn K (.ref f__law_heard) = true)
    (a_law : PySem.W.nsIn K mainGlobals "law" = some (some (.ref f_law)))
    (l_law : K.lookup f_law = some ⟨oc_law, od_law, .func (PySem.W.fnOf "law" "law" (defArgs s_law) (defBody s_law) (defScope s_law) .none kV_law dc_law pm_law an_law (.ref cA) ct_law), sl_law⟩)
    (co_law : PySem.W.codeIn K (.ref cA) "law" = true)
    (kp_law : PySem.W.keepIn K (.ref f_law) = true)
    (lc_P0 : K.lookup cA = some ⟨.type "code", od_cA, .fields vs_cA, sl_cA⟩)
    (v11_P0 : vs_cA[11]? = some (.ref P0))
    (ch_P0 : PySem.W.codeHdIn K cA P0 = true)
    (kl_P0 : K.lookup P0 = none)
    (tb_P0 : h.get? P0 = some { cls := .none, data := .fields #[] })
    (lc_PR : K.lookup cR = some ⟨.type "code", od_cR, .fields vs_cR, sl_cR⟩)
    (v11_PR : vs_cR[11]? = some (.ref PR))
    (ch_PR : PySem.W.codeHdIn K cR PR = true)
    (kl_PR : K.lookup PR = none)
    (tb_PR : h.get? PR = some { cls := .none, data := .fields #[] })
    (ne_PR : PR ≠ P0)
    : LamX.LawAtS l w K CX0 13 63 "_law_script" mg fa h := by
  have e := hfa.symm.trans (PySem.W.mg_of X G a_law)
  obtain rfl : f_law = fa := by cases e; rfl
  have T : Txt w K mg { f_is_whole := f_is_whole, d_is_whole := PySem.W.fnOf "is_whole" "is_whole" (defArgs s_is_whole) (defBody s_is_whole) (defScope s_is_whole) .none kV_is_whole dc_is_whole pm_is_whole an_is_whole cd_is_whole ct_is_whole, f_is_whole_to := f_is_whole_to, d_is_whole_to := PySem.W.fnOf "is_whole_to" "is_whole_to" (defArgs s_is_whole_to) (defBody s_is_whole_to) (defScope s_is_whole_to) .none kV_is_whole_to dc_is_whole_to pm_is_whole_to an_is_whole_to cd_is_whole_to ct_is_whole_to, f__law_bag := f__law_bag, d__law_bag := PySem.W.fnOf "_law_bag" "_law_bag" (defArgs s__law_bag) (defBody s__law_bag) (defScope s__law_bag) .none kV__law_bag dc__law_bag pm__law_bag an__law_bag cd__law_bag ct__law_bag, f__law_draw := f__law_draw, d__law_draw := PySem.W.fnOf "_law_draw" "_law_draw" (defArgs s__law_draw) (defBody s__law_draw) (defScope s__law_draw) .none kV__law_draw dc__law_draw pm__law_draw an__law_draw cd__law_draw ct__law_draw, f__law_same := f__law_same, d__law_same := PySem.W.fnOf "_law_same" "_law_same" (defArgs s__law_same) (defBody s__law_same) (defScope s__law_same) .none kV__law_same dc__law_same pm__law_same an__law_same cd__law_same ct__law_same, f__law_due := f__law_due, d__law_due := PySem.W.fnOf "_law_due" "_law_due" (defArgs s__law_due) (defBody s__law_due) (defScope s__law_due) .none kV__law_due dc__law_due pm__law_due an__law_due cd__law_due ct__law_due, f__law_spoilt := f__law_spoilt, d__law_spoilt := PySem.W.fnOf "_law_spoilt" "_law_spoilt" (defArgs s__law_spoilt) (defBody s__law_spoilt) (defScope s__law_spoilt) .none kV__law_spoilt dc__law_spoilt pm__law_spoilt an__law_spoilt cd__law_spoilt ct__law_spoilt, f__law_right := f__law_right, d__law_right := PySem.W.fnOf "_law_right" "_law_right" (defArgs s__law_right) (defBody s__law_right) (defScope s__law_right) .none kV__law_right dc__law_right pm__law_right an__law_right (.ref cR) ct__law_right, f_Mode := f_Mode, f_ModeD_initD := f_ModeD_initD, d_ModeD_initD := PySem.W.fnOf "__init__" "Mode.__init__" (defArgs s_ModeD_initD) (defBody s_ModeD_initD) (defScope s_ModeD_initD) .none kV_ModeD_initD dc_ModeD_initD pm_ModeD_initD an_ModeD_initD cd_ModeD_initD ct_ModeD_initD, f_Mode_number := f_Mode_number, d_Mode_number := PySem.W.fnOf "number" "Mode.number" (defArgs s_Mode_number) (defBody s_Mode_number) (defScope s_Mode_number) .none kV_Mode_number dc_Mode_number pm_Mode_number an_Mode_number cd_Mode_number ct_Mode_number, p_Mode_number := p_Mode_number, f_ModeD_strD := f_ModeD_strD, d_ModeD_strD := PySem.W.fnOf "__str__" "Mode.__str__" (defArgs s_ModeD_strD) (defBody s_ModeD_strD) (defScope s_ModeD_strD) .none kV_ModeD_strD dc_ModeD_strD pm_ModeD_strD an_ModeD_strD cd_ModeD_strD ct_ModeD_strD, f_Mode_read := f_Mode_read, d_Mode_read := PySem.W.fnOf "read" "Mode.read" (defArgs s_Mode_read) (defBody s_Mode_read) (defScope s_Mode_read) .none kV_Mode_read dc_Mode_read pm_Mode_read an_Mode_read cd_Mode_read ct_Mode_read, p_Mode_read := p_Mode_read, k_NINE_BITS := k_NINE_BITS, x_BadMode := x_BadMode, x_BadInput := x_BadInput, x_NoWay := x_NoWay, x_BadText := x_BadText, x_ModesError := x_ModesError, f_BadTextD_initD := f_BadTextD_initD, d_BadTextD_initD := PySem.W.fnOf "__init__" "BadText.__init__" (defArgs s_BadTextD_initD) (defBody s_BadTextD_initD) (defScope s_BadTextD_initD) .none kV_BadTextD_initD dc_BadTextD_initD pm_BadTextD_initD an_BadTextD_initD cd_BadTextD_initD ct_BadTextD_initD, f__law_heard := f__law_heard, d__law_heard := PySem.W.fnOf "_law_heard" "_law_heard" (defArgs s__law_heard) (defBody s__law_heard) (defScope s__law_heard) .none kV__law_heard dc__law_heard pm__law_heard an__law_heard cd__law_heard ct__law_heard, cA := cA, P0 := P0, cR := cR, PR := PR } := {
    b_ValueError := PySem.W.mg_none_of X G z_ValueError,
    b_isinstance := PySem.W.mg_none_of X G z_isinstance,
    b_int := PySem.W.mg_none_of X G z_int,
    b_bool := PySem.W.mg_none_of X G z_bool,
    b_str := PySem.W.mg_none_of X G z_str,
    b_list := PySem.W.mg_none_of X G z_list,
    b_len := PySem.W.mg_none_of X G z_len,
    b_abs := PySem.W.mg_none_of X G z_abs,
    b_range := PySem.W.mg_none_of X G z_range,
    b_tuple := PySem.W.mg_none_of X G z_tuple,
    b_enumerate := PySem.W.mg_none_of X G z_enumerate,
    b_min := PySem.W.mg_none_of X G z_min,
    b_zip := PySem.W.mg_none_of X G z_zip,
    mg_is_whole := PySem.W.mg_of X G a_is_whole,
    fn_is_whole := fun_mk (st := s_is_whole) l_is_whole co_is_whole kp_is_whole,
    mg_is_whole_to := PySem.W.mg_of X G a_is_whole_to,
    fn_is_whole_to := fun_mk (st := s_is_whole_to) l_is_whole_to co_is_whole_to kp_is_whole_to,
    mg__law_bag := PySem.W.mg_of X G a__law_bag,
    fn__law_bag := fun_mk (st := s__law_bag) l__law_bag co__law_bag kp__law_bag,
    mg__law_draw := PySem.W.mg_of X G a__law_draw,
    fn__law_draw := fun_mk (st := s__law_draw) l__law_draw co__law_draw kp__law_draw,
    mg__law_same := PySem.W.mg_of X G a__law_same,
    fn__law_same := fun_mk (st := s__law_same) l__law_same co__law_same kp__law_same,
    mg__law_due := PySem.W.mg_of X G a__law_due,
    fn__law_due := fun_mk (st := s__law_due) l__law_due co__law_due kp__law_due,
    mg__law_spoilt := PySem.W.mg_of X G a__law_spoilt,
    fn__law_spoilt := fun_mk (st := s__law_spoilt) l__law_spoilt co__law_spoilt kp__law_spoilt,
    mg__law_right := PySem.W.mg_of X G a__law_right,
    fn__law_right := fun_mk (st := s__law_right) l__law_right co__law_right kp__law_right,
    mg_Mode := PySem.W.mg_of X G a_Mode,
    c_Mode := ⟨pg_Mode, hd_Mode, po_Mode, sa_Mode⟩,
    n_number_Mode := n_number_Mode,
    mk_Mode := ⟨mk_Mode, at_ModeD_initD, fi_ModeD_initD, kc_Mode⟩,
    fn_ModeD_initD := fun_mk (st := s_ModeD_initD) l_ModeD_initD co_ModeD_initD kp_ModeD_initD,
    p_Mode_number := ⟨at_Mode_number, ge_Mode_number, ta_Mode_number, ⟨_, rc_Mode_number⟩⟩,
    fn_Mode_number := fun_mk (st := s_Mode_number) l_Mode_number co_Mode_number kp_Mode_number,
    m_ModeD_strD := ⟨at_ModeD_strD, fi_ModeD_strD, kp_ModeD_strD⟩,
    fn_ModeD_strD := fun_mk (st := s_ModeD_strD) l_ModeD_strD co_ModeD_strD kp_ModeD_strD,
    r_Mode := ⟨rd_Mode, ga_Mode⟩,
    k_Mode_MOST := ⟨_, ⟨cv_Mode_MOST, ⟨_, rfl⟩⟩⟩,
    m_Mode_read := ⟨at_Mode_read, ⟨_, rc_Mode_read⟩, fm_Mode_read⟩,
    fn_Mode_read := fun_mk (st := s_Mode_read) l_Mode_read co_Mode_read kp_Mode_read,
    ia_Mode := ia_Mode,
    im_Mode := im_Mode,
    is_Mode := kit_self,
    ii_Mode := kit_no ci_Mode ti_Mode su_Mode,
    in_ := in0,
    it_ := it0,
    mg_NINE_BITS := PySem.W.mg_of X G a_NINE_BITS,
    t_NINE_BITS := fun H => tup_at lt_NINE_BITS sz_NINE_BITS vl_NINE_BITS,
    mg_NINE_SIGNS := ⟨_, PySem.W.mg_of X G a_NINE_SIGNS⟩,
    mg_BadMode := PySem.W.mg_of X G a_BadMode,
    mg_BadInput := PySem.W.mg_of X G a_BadInput,
    mg_NoWay := PySem.W.mg_of X G a_NoWay,
    mg_BadText := PySem.W.mg_of X G a_BadText,
    mg_ModesError := PySem.W.mg_of X G a_ModesError,
    ks_BadInput := kit_ref cix_BadInput tix_BadInput sux_BadInput nex_BadInput,
    ks_NoWay := kit_ref cix_NoWay tix_NoWay sux_NoWay nex_NoWay,
    ks_BadMode := kit_ref cix_BadMode tix_BadMode sux_BadMode nex_BadMode,
    ks_BadText := kit_self,
    ks_ValueError := kit_ve suv_B,
    ec_BadText := ⟨ga_B, gg_B, ex_B, hd_B, cc_B, in0, it0, mr_B⟩,
    ox_BadText := ⟨⟨_, _, _, _, _, _, _, _, _, _, _, _, _, _, _, xl_B, rf_B⟩, sa_B, ex_B, ty_B, kp_B⟩,
    ic_BadText := in_B,
    it_BadText := ti_B,
    nl_BadText := nl_B,
    nw_BadText := nw_B,
    em_BadText := exm_ref bex_ME cix_ModesError tix_ModesError sux_ME,
    fn_BadTextD_initD := fun_mk (st := s_BadTextD_initD) l_BadTextD_initD co_BadTextD_initD kp_BadTextD_initD,
    mg__law_heard := PySem.W.mg_of X G a__law_heard,
    fn__law_heard := fun_mk (st := s__law_heard) l__law_heard co__law_heard kp__law_heard,
    cr := ⟨_, _, _, _, _, _, _, _, rfl, l__law_right⟩,
    cr_code := co__law_right,
    PRP0 := ne_PR
  }
  refine ⟨PySem.W.fnOf "law" "law" (defArgs s_law) (defBody s_law) (defScope s_law) .none kV_law dc_law pm_law an_law (.ref cA) ct_law, [(cA, P0), (cR, PR)], spLaw K { f_is_whole := f_is_whole, d_is_whole := PySem.W.fnOf "is_whole" "is_whole" (defArgs s_is_whole) (defBody s_is_whole) (defScope s_is_whole) .none kV_is_whole dc_is_whole pm_is_whole an_is_whole cd_is_whole ct_is_whole, f_is_whole_to := f_is_whole_to, d_is_whole_to := PySem.W.fnOf "is_whole_to" "is_whole_to" (defArgs s_is_whole_to) (defBody s_is_whole_to) (defScope s_is_whole_to) .none kV_is_whole_to dc_is_whole_to pm_is_whole_to an_is_whole_to cd_is_whole_to ct_is_whole_to, f__law_bag := f__law_bag, d__law_bag := PySem.W.fnOf "_law_bag" "_law_bag" (defArgs s__law_bag) (defBody s__law_bag) (defScope s__law_bag) .none kV__law_bag dc__law_bag pm__law_bag an__law_bag cd__law_bag ct__law_bag, f__law_draw := f__law_draw, d__law_draw := PySem.W.fnOf "_law_draw" "_law_draw" (defArgs s__law_draw) (defBody s__law_draw) (defScope s__law_draw) .none kV__law_draw dc__law_draw pm__law_draw an__law_draw cd__law_draw ct__law_draw, f__law_same := f__law_same, d__law_same := PySem.W.fnOf "_law_same" "_law_same" (defArgs s__law_same) (defBody s__law_same) (defScope s__law_same) .none kV__law_same dc__law_same pm__law_same an__law_same cd__law_same ct__law_same, f__law_due := f__law_due, d__law_due := PySem.W.fnOf "_law_due" "_law_due" (defArgs s__law_due) (defBody s__law_due) (defScope s__law_due) .none kV__law_due dc__law_due pm__law_due an__law_due cd__law_due ct__law_due, f__law_spoilt := f__law_spoilt, d__law_spoilt := PySem.W.fnOf "_law_spoilt" "_law_spoilt" (defArgs s__law_spoilt) (defBody s__law_spoilt) (defScope s__law_spoilt) .none kV__law_spoilt dc__law_spoilt pm__law_spoilt an__law_spoilt cd__law_spoilt ct__law_spoilt, f__law_right := f__law_right, d__law_right := PySem.W.fnOf "_law_right" "_law_right" (defArgs s__law_right) (defBody s__law_right) (defScope s__law_right) .none kV__law_right dc__law_right pm__law_right an__law_right (.ref cR) ct__law_right, f_Mode := f_Mode, f_ModeD_initD := f_ModeD_initD, d_ModeD_initD := PySem.W.fnOf "__init__" "Mode.__init__" (defArgs s_ModeD_initD) (defBody s_ModeD_initD) (defScope s_ModeD_initD) .none kV_ModeD_initD dc_ModeD_initD pm_ModeD_initD an_ModeD_initD cd_ModeD_initD ct_ModeD_initD, f_Mode_number := f_Mode_number, d_Mode_number := PySem.W.fnOf "number" "Mode.number" (defArgs s_Mode_number) (defBody s_Mode_number) (defScope s_Mode_number) .none kV_Mode_number dc_Mode_number pm_Mode_number an_Mode_number cd_Mode_number ct_Mode_number, p_Mode_number := p_Mode_number, f_ModeD_strD := f_ModeD_strD, d_ModeD_strD := PySem.W.fnOf "__str__" "Mode.__str__" (defArgs s_ModeD_strD) (defBody s_ModeD_strD) (defScope s_ModeD_strD) .none kV_ModeD_strD dc_ModeD_strD pm_ModeD_strD an_ModeD_strD cd_ModeD_strD ct_ModeD_strD, f_Mode_read := f_Mode_read, d_Mode_read := PySem.W.fnOf "read" "Mode.read" (defArgs s_Mode_read) (defBody s_Mode_read) (defScope s_Mode_read) .none kV_Mode_read dc_Mode_read pm_Mode_read an_Mode_read cd_Mode_read ct_Mode_read, p_Mode_read := p_Mode_read, k_NINE_BITS := k_NINE_BITS, x_BadMode := x_BadMode, x_BadInput := x_BadInput, x_NoWay := x_NoWay, x_BadText := x_BadText, x_ModesError := x_ModesError, f_BadTextD_initD := f_BadTextD_initD, d_BadTextD_initD := PySem.W.fnOf "__init__" "BadText.__init__" (defArgs s_BadTextD_initD) (defBody s_BadTextD_initD) (defScope s_BadTextD_initD) .none kV_BadTextD_initD dc_BadTextD_initD pm_BadTextD_initD an_BadTextD_initD cd_BadTextD_initD ct_BadTextD_initD, f__law_heard := f__law_heard, d__law_heard := PySem.W.fnOf "_law_heard" "_law_heard" (defArgs s__law_heard) (defBody s__law_heard) (defScope s__law_heard) .none kV__law_heard dc__law_heard pm__law_heard an__law_heard cd__law_heard ct__law_heard, cA := cA, P0 := P0, cR := cR, PR := PR }, fun p hp => ?_, fun p hp => ?_, fun p hp => ?_, fun s v => .of_eq rfl, fun H b ns hl _ hT hS => ⟨b, ns, rfl, hS, hl, hT (cR, PR) (List.mem_cons_of_mem _ (List.mem_singleton.mpr rfl)), hT (cA, P0) (List.mem_cons_self ..), fun _ => rfl⟩, fun base _ _ TB => ok_law T l_law co_law (TB (cR, PR) (List.mem_cons_of_mem _ (List.mem_singleton.mpr rfl))) (TB (cA, P0) (List.mem_cons_self ..))⟩
  · rcases List.mem_cons.mp hp with rfl | hp
    · exact tb_P0
    · rw [List.mem_singleton.mp hp]; exact tb_PR
  · rcases List.mem_cons.mp hp with rfl | hp
    · exact kl_P0
    · rw [List.mem_singleton.mp hp]; exact kl_PR
  · rcases List.mem_cons.mp hp with rfl | hp
    · exact PySem.W.codeHd_of_K X ch_P0
    · rw [List.mem_singleton.mp hp]; exact PySem.W.codeHd_of_K X ch_PR
end KB
open PySem PySem.W PyProof.Rows
set_option maxRecDepth 100000 in
set_option maxHeartbeats 0 in
theorem PySem.Challenge.cw_modesdown_k02_modes_read_holds : PySem.Challenge.rw_modesdown_k02_modes_read.Holds := by
  w_on; o_law; k_head; (case hw => w_witness2)
  k_fill
  refine LamX.walk_ofTs (n := 63) (k := 13) (x := "_law_script") (CX := fun _ => L2.CX0) rfl (by decide) rfl ⟨rfl, by decide, by decide⟩ (fun w h Y => PySem.W.km_in_of Y) ?F (fun _ _ _ _ _ z => z)
  case F =>
    intro w mg fa h Y kIn G hmg
    refine' KB.all_mk kIn G hmg ?z_ValueError ?z_isinstance ?z_int ?z_bool ?z_str ?z_list ?z_len ?z_abs ?z_range ?z_tuple ?z_enumerate ?z_min ?z_zip ?a_is_whole ?l_is_whole ?co_is_whole ?kp_is_whole ?a_is_whole_to ?l_is_whole_to ?co_is_whole_to ?kp_is_whole_to ?a__law_bag ?l__law_bag ?co__law_bag ?kp__law_bag ?a__law_draw ?l__law_draw ?co__law_draw ?kp__law_draw ?a__law_same ?l__law_same ?co__law_same ?kp__law_same ?a__law_due ?l__law_due ?co__law_due ?kp__law_due ?a__law_spoilt ?l__law_spoilt ?co__law_spoilt ?kp__law_spoilt ?a__law_right ?l__law_right ?co__law_right ?kp__law_right ?a_Mode ?pg_Mode ?hd_Mode ?po_Mode ?sa_Mode ?n_number_Mode ?at_ModeD_initD ?fi_ModeD_initD ?l_ModeD_initD ?co_ModeD_initD ?kp_ModeD_initD ?mk_Mode ?kc_Mode ?at_Mode_number ?ge_Mode_number ?ta_Mode_number ?rc_Mode_number ?l_Mode_number ?co_Mode_number ?kp_Mode_number ?at_ModeD_strD ?fi_ModeD_strD ?l_ModeD_strD ?co_ModeD_strD ?kp_ModeD_strD ?rd_Mode ?ga_Mode ?cv_Mode_MOST ?at_Mode_read ?rc_Mode_read ?fm_Mode_read ?l_Mode_read ?co_Mode_read ?kp_Mode_read ?ia_Mode ?im_Mode ?ci_Mode ?ti_Mode ?su_Mode ?in0 ?it0 ?a_NINE_BITS ?lt_NINE_BITS ?sz_NINE_BITS ?vl_NINE_BITS ?a_NINE_SIGNS ?a_BadMode ?a_BadInput ?a_NoWay ?a_BadText ?a_ModesError ?xl_B ?rf_B ?sa_B ?ex_B ?ty_B ?kp_B ?ga_B ?gg_B ?hd_B ?cc_B ?mr_B ?nl_B ?nw_B ?in_B ?ti_B ?l_BadTextD_initD ?co_BadTextD_initD ?kp_BadTextD_initD ?cix_BadInput ?tix_BadInput ?cix_NoWay ?tix_NoWay ?cix_BadMode ?tix_BadMode ?cix_ModesError ?tix_ModesError ?sux_BadInput ?nex_BadInput ?sux_NoWay ?nex_NoWay ?sux_BadMode ?nex_BadMode ?suv_B ?bex_ME ?sux_ME ?a__law_heard ?l__law_heard ?co__law_heard ?kp__law_heard ?a_law ?l_law ?co_law ?kp_law ?lc_P0 ?v11_P0 ?ch_P0 ?kl_P0 ?tb_P0 ?lc_PR ?v11_PR ?ch_PR ?kl_PR ?tb_PR ?ne_PR
    (case z_ValueError => k_is)
    (case z_isinstance => k_is)
    (case z_int => k_is)
    (case z_bool => k_is)
    (case z_str => k_is)
    (case z_list => k_is)
    (case z_len => k_is)
    (case z_abs => k_is)
    (case z_range => k_is)
    (case z_tuple => k_is)
    (case z_enumerate => k_is)
    (case z_min => k_is)
    (case z_zip => k_is)
    (case a_is_whole => k_is)
    (case l_is_whole => k_is)
    (case co_is_whole => k_is)
    (case kp_is_whole => k_is)
    (case a_is_whole_to => k_is)
    (case l_is_whole_to => k_is)
    (case co_is_whole_to => k_is)
    (case kp_is_whole_to => k_is)
    (case a__law_bag => k_is)
    (case l__law_bag => k_is)
    (case co__law_bag => k_is)
    (case kp__law_bag => k_is)
    (case a__law_draw => k_is)
    (case l__law_draw => k_is)
    (case co__law_draw => k_is)
    (case kp__law_draw => k_is)
    (case a__law_same => k_is)
    (case l__law_same => k_is)
    (case co__law_same => k_is)
    (case kp__law_same => k_is)
    (case a__law_due => k_is)
    (case l__law_due => k_is)
    (case co__law_due => k_is)
    (case kp__law_due => k_is)
    (case a__law_spoilt => k_is)
    (case l__law_spoilt => k_is)
    (case co__law_spoilt => k_is)
    (case kp__law_spoilt => k_is)
    (case a__law_right => k_is)
    (case l__law_right => k_is)
    (case co__law_right => k_is)
    (case kp__law_right => k_is)
    (case a_Mode => k_is)
    (case pg_Mode => k_is)
    (case hd_Mode => k_is)
    (case po_Mode => k_is)
    (case sa_Mode => k_is)
    (case n_number_Mode => k_is)
    (case at_ModeD_initD => k_is)
    (case fi_ModeD_initD => k_is)
    (case l_ModeD_initD => k_is)
    (case co_ModeD_initD => k_is)
    (case kp_ModeD_initD => k_is)
    (case mk_Mode => k_is)
    (case kc_Mode => k_is)
    (case at_Mode_number => k_is)
    (case ge_Mode_number => k_is)
    (case ta_Mode_number => k_is)
    (case rc_Mode_number => k_is)
    (case l_Mode_number => k_is)
    (case co_Mode_number => k_is)
    (case kp_Mode_number => k_is)
    (case at_ModeD_strD => k_is)
    (case fi_ModeD_strD => k_is)
    (case l_ModeD_strD => k_is)
    (case co_ModeD_strD => k_is)
    (case kp_ModeD_strD => k_is)
    (case rd_Mode => k_is)
    (case ga_Mode => k_is)
    (case cv_Mode_MOST => k_is)
    (case at_Mode_read => k_is)
    (case rc_Mode_read => k_is)
    (case fm_Mode_read => k_is)
    (case l_Mode_read => k_is)
    (case co_Mode_read => k_is)
    (case kp_Mode_read => k_is)
    (case ia_Mode => k_is)
    (case im_Mode => k_is)
    (case ci_Mode => k_is)
    (case ti_Mode => k_is)
    (case su_Mode => k_is)
    (case in0 => k_is)
    (case it0 => k_is)
    (case a_NINE_BITS => k_is)
    (case lt_NINE_BITS => k_is)
    (case sz_NINE_BITS => (exact Nat.le_of_lt (L2.small1000 (by decide))))
    (case vl_NINE_BITS => exact (.cons ⟨_, rfl⟩ (.cons ⟨_, rfl⟩ (.cons ⟨_, rfl⟩ (.cons ⟨_, rfl⟩ (.cons ⟨_, rfl⟩ (.cons ⟨_, rfl⟩ (.cons ⟨_, rfl⟩ (.cons ⟨_, rfl⟩ (.cons ⟨_, rfl⟩ .nil))))))))))
    (case a_NINE_SIGNS => k_is)
    (case a_BadMode => k_is)
    (case a_BadInput => k_is)
    (case a_NoWay => k_is)
    (case a_BadText => k_is)
    (case a_ModesError => k_is)
    (case xl_B => k_is)
    (case rf_B => decide +kernel)
    (case sa_B => k_is)
    (case ex_B => k_is)
    (case ty_B => k_is)
    (case kp_B => k_is)
    (case ga_B => k_is)
    (case gg_B => k_is)
    (case hd_B => k_is)
    (case cc_B => k_is)
    (case mr_B => k_is)
    (case nl_B => k_is)
    (case nw_B => k_is)
    (case in_B => k_is)
    (case ti_B => k_is)
    (case l_BadTextD_initD => k_is)
    (case co_BadTextD_initD => k_is)
    (case kp_BadTextD_initD => k_is)
    (case cix_BadInput => k_is)
    (case tix_BadInput => k_is)
    (case cix_NoWay => k_is)
    (case tix_NoWay => k_is)
    (case cix_BadMode => k_is)
    (case tix_BadMode => k_is)
    (case cix_ModesError => k_is)
    (case tix_ModesError => k_is)
    (case sux_BadInput => k_is)
    (case nex_BadInput => decide)
    (case sux_NoWay => k_is)
    (case nex_NoWay => decide)
    (case sux_BadMode => k_is)
    (case nex_BadMode => decide)
    (case suv_B => k_is)
    (case bex_ME => k_is)
    (case sux_ME => k_is)
    (case a__law_heard => k_is)
    (case l__law_heard => k_is)
    (case co__law_heard => k_is)
    (case kp__law_heard => k_is)
    (case a_law => k_is)
    (case l_law => k_is)
    (case co_law => k_is)
    (case kp_law => k_is)
    (case lc_P0 => k_is)
    (case v11_P0 => rfl)
    (case ch_P0 => kernel_rfl)
    (case kl_P0 => first | k_is | kernel_rfl)
    (case tb_P0 => exact PySem.W.km_tabs_of Y _ (by k_mem))
    (case lc_PR => k_is)
    (case v11_PR => rfl)
    (case ch_PR => kernel_rfl)
    (case kl_PR => first | k_is | kernel_rfl)
    (case tb_PR => exact PySem.W.km_tabs_of Y _ (by k_mem))
    (case ne_PR => decide)
